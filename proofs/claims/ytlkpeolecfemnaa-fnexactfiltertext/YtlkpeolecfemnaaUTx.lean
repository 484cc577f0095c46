/- The texts of filters. Pure. -/
import Derived.Test.YtlkpeolecfemnaaUSg
import Derived.Test.YtlkpeolecfemnaaQEsc
namespace Go.Proofs.Ytlkpeolecfemnaa.V
open Go.RowKit

abbrev fSig : List UInt8 := [40, 41, 92]
def opB (k : Int) : List UInt8 := if k = 5 then [62, 61] else if k = 6 then [60, 61] else [61]
def plainB (e : List UInt8) : List UInt8 := if e.head? = some 42 ∨ e.head? = some 126 then 92 :: e else e
/-- What stands ahead of the kids. -/
def headB (x : FilterNodeT) : List UInt8 :=
  if x.f0 = 1 then [40, 38] else if x.f0 = 2 then [40, 124] else if x.f0 = 3 then [40, 33] else if x.f0 = 7 then [40] ++ x.f1.data.toList ++ [61, 42]
  else if x.f0 = 8 then [40] ++ x.f1.data.toList ++ [61, 126] ++ esc fSig x.f2.data.toList else [40] ++ x.f1.data.toList ++ opB x.f0 ++ plainB (esc fSig x.f2.data.toList)
def ftx : Nat → FT → List UInt8
  | 0, _ => []
  | r + 1, .node x ks => headB x ++ ks.flatMap (ftx r) ++ [41]
def nF : Nat → FT → Nat
  | 0, _ => 0
  | r + 1, .node _ ks => 1 + (ks.map (nF r)).sum
theorem takeK_n {f : List FilterNodeT → Option (FT × List FilterNodeT)} {g : FT → Nat} (hf : ∀ l t l', f l = some (t, l') → g t + l'.length = l.length) : ∀ (n : Nat) (l : List FilterNodeT) (ks : List FT) (l' : List FilterNodeT), takeK f n l = some (ks, l') → (ks.map g).sum + l'.length = l.length
  | 0, l, ks, l', h => by simp [takeK] at h; obtain ⟨rfl, rfl⟩ := h; simp
  | n + 1, l, ks, l', h => by
    simp only [takeK, Option.bind_eq_some_iff, Option.map_eq_some_iff, Prod.exists, Prod.mk.injEq] at h
    obtain ⟨t, r1, h1, ts, r2, h2, rfl, rfl⟩ := h
    have a := hf _ _ _ h1
    have b := takeK_n hf n _ _ _ h2
    simp only [List.map_cons, List.sum_cons]; omega
theorem takeT_n : ∀ (r : Nat) (l : List FilterNodeT) (t : FT) (l' : List FilterNodeT), takeT r l = some (t, l') → nF r t + l'.length = l.length
  | 0, l, t, l', h => by simp [takeT] at h
  | r + 1, [], t, l', h => by simp [takeT] at h
  | r + 1, x :: l, t, l', h => by
    simp only [takeT] at h
    split at h
    · cases h
    · obtain ⟨⟨ks, q⟩, h1, h2⟩ := Option.map_eq_some_iff.1 h
      obtain ⟨rfl, rfl⟩ := by simpa using h2
      have := takeK_n (takeT_n r) _ _ _ _ h1
      simp only [nF, List.length_cons]; omega
theorem esc_le (l : List UInt8) : (esc fSig l).length ≤ 4 * l.length := by
  induction l with
  | nil => simp [esc]
  | cons c l ih =>
    have h := escs_len fSig c
    have e : esc fSig (c :: l) = escs fSig c ++ [c] ++ esc fSig l := by simp [esc]
    rw [e]
    simp only [List.length_append, List.length_cons, List.length_nil] at h ⊢
    omega
theorem plain_le (e : List UInt8) : (plainB e).length ≤ e.length + 1 := by unfold plainB; split <;> simp
theorem op_le (k : Int) : (opB k).length ≤ 2 := by
  unfold opB
  split
  · simp
  · split <;> simp
theorem head_le {x : FilterNodeT} (h : NodeP x) (h1 : goodName x.f1 = true → x.f1.size ≤ 200) : (headB x).length ≤ 1100 := by
  unfold NodeP at h
  unfold headB
  by_cases a : x.f0 = 1
  · rw [if_pos a]; simp
  by_cases b : x.f0 = 2
  · rw [if_neg a, if_pos b]; simp
  by_cases c : x.f0 = 3
  · rw [if_neg a, if_neg b, if_pos c]; simp
  rw [if_neg (by omega), if_neg c] at h
  rw [if_neg a, if_neg b, if_neg c]
  have sz : x.f1.data.toList.length = x.f1.size := by rw [Array.length_toList]; rfl
  by_cases d : x.f0 = 7
  · rw [if_pos d] at h
    rw [if_pos d]
    have := h1 h.1
    simp only [List.length_append, List.length_cons, List.length_nil, sz]; omega
  rw [if_neg d] at h
  rw [if_neg d]
  split at h
  · have g1 := h1 h.1
    have g2 := h.2.1.2.1
    have sz2 : x.f2.data.toList.length = x.f2.size := by rw [Array.length_toList]; rfl
    have e := esc_le x.f2.data.toList
    have pl := plain_le (esc fSig x.f2.data.toList)
    have op := op_le x.f0
    split
    · simp only [List.length_append, List.length_cons, List.length_nil, sz]; omega
    · simp only [List.length_append, List.length_cons, List.length_nil, sz]; omega
  · cases h
theorem flat_le {g : FT → List UInt8} {m : FT → Nat} : ∀ (ks : List FT), (∀ k ∈ ks, (g k).length ≤ 1200 * m k) → (ks.flatMap g).length ≤ 1200 * (ks.map m).sum
  | [], _ => by simp
  | k :: ks, h => by
    have a := h k (by simp)
    have b := flat_le ks (fun k hk => h k (by simp [hk]))
    simp only [List.flatMap_cons, List.length_append, List.map_cons, List.sum_cons]; omega
theorem ftx_le (hg : ∀ s : ByteArray, goodName s = true → s.size ≤ 200) : ∀ (r : Nat) (t : FT), Right t → (ftx r t).length ≤ 1200 * nF r t
  | 0, t, _ => by simp [ftx]
  | r + 1, .node x ks, h => by
    obtain ⟨h1, h2⟩ := h.out
    have a := head_le h1 (hg _)
    have b := flat_le (g := ftx r) (m := nF r) ks (fun k hk => ftx_le hg r k (h2 k hk))
    simp only [ftx, nF, List.length_append, List.length_cons, List.length_nil]; omega
theorem flat_mem {g : FT → List UInt8} {k : FT} : ∀ {ks : List FT}, k ∈ ks → (g k).length ≤ (ks.flatMap g).length
  | [], h => by cases h
  | q :: ks, h => by
    rw [List.flatMap_cons, List.length_append]
    rcases List.mem_cons.1 h with rfl | h
    · omega
    · have := flat_mem (g := g) h; omega
end Go.Proofs.Ytlkpeolecfemnaa.V
