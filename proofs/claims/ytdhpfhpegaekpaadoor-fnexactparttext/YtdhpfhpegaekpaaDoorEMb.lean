/- Documents told: pure. -/
import Derived.Test.YtdhpfhpegaekpaaDoorEMa
namespace Go.Proofs.YtdhpfhpegaekpaaDoor.V
set_option linter.unusedSimpArgs false
set_option linter.unusedVariables false
open Go.RowKit

def attr (p : ByteArray × ByteArray) : List UInt8 := [32] ++ p.1.data.toList ++ [61, 34] ++ ex p.2.data.toList ++ [34]
def attrs (x : ElemT) : List UInt8 := (x.f2.zip x.f3).flatMap attr
def hdx (x : ElemT) : List UInt8 := [60] ++ x.f0.data.toList ++ attrs x ++ ([62] ++ ex x.f1.data.toList)
def endx (x : ElemT) : List UInt8 := [60, 47] ++ x.f0.data.toList ++ [62]
/-- The text of a tree. -/
def dtx : Nat → DT → List UInt8
  | 0, _ => []
  | r + 1, t => hdx t.n.t ++ t.kids.flatMap (dtx r) ++ endx t.n.t
theorem gnm_len {s : ByteArray} (h : GNm s) : s.size ≤ 30 := by
  unfold GNm at h
  rcases Nat.lt_or_ge 30 s.size with e | e
  · rw [goodName_size (.inr e)] at h; cases h
  · exact e
theorem gtx_len {s : ByteArray} (h : GTx s) : s.size ≤ 200 := by
  unfold GTx at h
  rw [Bool.and_eq_true, decide_eq_true_iff] at h
  exact h.1
theorem attr_len {p : ByteArray × ByteArray} (h1 : GNm p.1) (h2 : GTx p.2) : (attr p).length ≤ 1300 := by
  have a := gnm_len h1
  have b := gtx_len h2
  have c := ex_len p.2.data.toList
  rw [Lib.size_eq] at a b
  simp only [attr, List.length_append, List.length_cons, List.length_nil]
  omega
theorem flat_len {α : Type} (f : α → List UInt8) (m : Nat) : ∀ (l : List α), (∀ x ∈ l, (f x).length ≤ m) → (l.flatMap f).length ≤ l.length * m
  | [], _ => by simp
  | x :: l, h => by
    have := flat_len f m l (fun y hy => h y (by simp [hy]))
    have := h x (by simp)
    rw [List.flatMap_cons, List.length_append, List.length_cons, Nat.succ_mul]; omega
theorem attrs_len {x : ElemT} (h : RightE x) : (attrs x).length ≤ 10400 := by
  have := flat_len attr 1300 (x.f2.zip x.f3) (fun p hp => attr_len (h.nn _ (List.of_mem_zip hp).1) (h.vv _ (List.of_mem_zip hp).2))
  have l8 := h.n8
  have : (x.f2.zip x.f3).length ≤ 8 := by rw [List.length_zip]; omega
  unfold attrs
  have := Nat.mul_le_mul_right 1300 this
  omega
theorem own_len {x : ElemT} (h : RightE x) : (hdx x).length + (endx x).length ≤ 12000 := by
  have a := gnm_len h.nm
  have b := gtx_len h.tx
  have c := ex_len x.f1.data.toList
  have d := attrs_len h
  rw [Lib.size_eq] at a b
  simp only [hdx, endx, List.length_append, List.length_cons, List.length_nil]
  omega
theorem take_inv {l : List ElemE} {r k k' : Nat} {t : DT} (h : takeD l (r + 1) k = some (t, k')) :
    ∃ (hk : k < l.length) (n : Nat) (ks : List DT), l[k].t.f4 = (n : Int) ∧ n ≤ 20 ∧ takeKD (takeD l r) n (k + 1) = some (ks, k') ∧ t = .node l[k] k ks := by
  simp only [takeD] at h
  split at h
  · rename_i hk
    split at h
    · cases h
    · rename_i ho
      obtain ⟨⟨ks, q⟩, h1, h2⟩ := Option.map_eq_some_iff.1 h
      obtain ⟨rfl, rfl⟩ := by simpa using h2
      exact ⟨hk, (l[k]).t.f4.toNat, ks, by omega, by omega, h1, rfl⟩
  · cases h
theorem kids_len {l : List ElemE} {r : Nat} (ih : ∀ k t k', takeD l r k = some (t, k') → k < k' ∧ k' ≤ l.length ∧ (dtx r t).length ≤ 12000 * (k' - k)) :
    ∀ (n k : Nat) (ts : List DT) (k' : Nat), takeKD (takeD l r) n k = some (ts, k') → k ≤ l.length → k ≤ k' ∧ k' ≤ l.length ∧ (ts.flatMap (dtx r)).length ≤ 12000 * (k' - k)
  | 0, k, ts, k', h, hk => by simp [takeKD] at h; obtain ⟨rfl, rfl⟩ := h; simpa using hk
  | n + 1, k, ts, k', h, hk => by
    simp only [takeKD, Option.bind_eq_some_iff, Option.map_eq_some_iff, Prod.exists, Prod.mk.injEq] at h
    obtain ⟨t, k1, h1, us, k2, h2, rfl, rfl⟩ := h
    have a := ih _ _ _ h1
    have b := kids_len ih n k1 us k2 h2 a.2.1
    refine ⟨by omega, b.2.1, ?_⟩
    rw [List.flatMap_cons, List.length_append]; omega
theorem dtx_len {l : List ElemE} (hr : ∀ x ∈ l, RightE x.t) : ∀ (r k : Nat) (t : DT) (k' : Nat), takeD l r k = some (t, k') → k < k' ∧ k' ≤ l.length ∧ (dtx r t).length ≤ 12000 * (k' - k)
  | 0, k, t, k', h => by simp [takeD] at h
  | r + 1, k, t, k', h => by
    obtain ⟨hk, n, ks, _, _, h1, rfl⟩ := take_inv h
    have a := kids_len (dtx_len hr r) _ (k + 1) ks k' h1 hk
    have b := own_len (hr _ (List.getElem_mem hk))
    refine ⟨by omega, a.2.1, ?_⟩
    simp only [dtx, DT.n, DT.kids, List.length_append]
    omega
theorem kids_pre {f : Nat → Option (DT × Nat)} {n k0 i : Nat} {pre ks : List DT} {k k' : Nat} (h : KidsD f n k0 i pre k) (e : takeKD f n k0 = some (ks, k')) : ∃ us, takeKD f (n - i) k = some (us, k') ∧ ks = pre ++ us := by
  rw [h.2.2] at e
  obtain ⟨⟨us, q⟩, h1, h2⟩ := Option.map_eq_some_iff.1 e
  obtain ⟨rfl, rfl⟩ := by simpa using h2
  exact ⟨us, h1, rfl⟩
theorem kids_next {f : Nat → Option (DT × Nat)} {n k0 i : Nat} {pre ks : List DT} {k k' : Nat} (h : KidsD f n k0 i pre k) (e : takeKD f n k0 = some (ks, k')) (hi : i < n) : ∃ t k1, f k = some (t, k1) := by
  cases hf : f k with
  | none => rw [h.no hi hf] at e; cases e
  | some p => exact ⟨p.1, p.2, rfl⟩
theorem zip_take (a b : List ByteArray) (k : Nat) (ha : k < a.length) (hb : k < b.length) : (a.zip b).take (k + 1) = (a.zip b).take k ++ [(a[k], b[k])] := by
  have hz : k < (a.zip b).length := by rw [List.length_zip]; omega
  rw [List.take_succ_eq_append_getElem hz, List.getElem_zip]
theorem zip_full (a b : List ByteArray) (h : b.length = a.length) : (a.zip b).take a.length = a.zip b := by
  rw [List.take_of_length_le]; rw [List.length_zip]; omega
end Go.Proofs.YtdhpfhpegaekpaaDoor.V
