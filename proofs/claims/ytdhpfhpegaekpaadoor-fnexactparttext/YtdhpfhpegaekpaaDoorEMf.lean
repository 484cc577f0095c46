/- The text of a part: pure; impl.partText, PartText, DocText. -/
import Derived.Test.YtdhpfhpegaekpaaDoorEMe
namespace Go.Proofs.YtdhpfhpegaekpaaDoor.V
set_option linter.unusedSimpArgs false
set_option linter.unusedVariables false
open Go.RowKit

def txKD (f : Nat → Option (List UInt8 × Nat)) : Nat → Nat → Option (List UInt8 × Nat)
  | 0, k => some ([], k)
  | n + 1, k => (f k).bind fun p => (txKD f n p.2).map fun q => (p.1 ++ q.1, q.2)
/-- The text of the element of a number and of what is in it, by what the elements hold. -/
def txD (xs : List ElemT) : Nat → Nat → Option (List UInt8 × Nat)
  | 0, _ => none
  | r + 1, k => if h : k < xs.length then (if xs[k].f4 < 0 ∨ 20 < xs[k].f4 then none else (txKD (txD xs r) xs[k].f4.toNat (k + 1)).map fun q => (hdx xs[k] ++ q.1 ++ endx xs[k], q.2)) else none
theorem kids_txD {l : List ElemE} {r : Nat} (ih : ∀ k t k', takeD l r k = some (t, k') → txD (l.map (·.t)) r k = some (t.tx, k')) :
    ∀ (n k : Nat) (ts : List DT) (k' : Nat), takeKD (takeD l r) n k = some (ts, k') → txKD (txD (l.map (·.t)) r) n k = some (ts.flatMap DT.tx, k')
  | 0, k, ts, k', h => by simp [takeKD] at h; obtain ⟨rfl, rfl⟩ := h; simp [txKD]
  | n + 1, k, ts, k', h => by
    simp only [takeKD, Option.bind_eq_some_iff, Option.map_eq_some_iff, Prod.exists, Prod.mk.injEq] at h
    obtain ⟨t, k1, h1, us, k2, h2, rfl, rfl⟩ := h
    simp only [txKD, ih _ _ _ h1, Option.bind_some, kids_txD ih n k1 us k2 h2, Option.map_some, List.flatMap_cons]
theorem take_txD {l : List ElemE} : ∀ (r k : Nat) (t : DT) (k' : Nat), takeD l r k = some (t, k') → txD (l.map (·.t)) r k = some (t.tx, k')
  | 0, k, t, k', h => by simp [takeD] at h
  | r + 1, k, t, k', h => by
    obtain ⟨hk, n, ks, h4, h20, h1, rfl⟩ := take_inv h
    have a := kids_txD (take_txD r) n (k + 1) ks k' h1
    have hk' : k < (l.map fun x : ElemE => x.t).length := by simpa using hk
    have e : (l.map fun x : ElemE => x.t)[k]'hk' = l[k].t := by simp
    have e4 : ((l.map fun x : ElemE => x.t)[k]'hk').f4 = (n : Int) := by rw [e, h4]
    simp only [txD, dif_pos hk', e4]
    rw [if_neg (by omega), Int.toNat_natCast, a, tx_node, e]
    rfl
theorem kids_mono {f g : Nat → Option (List UInt8 × Nat)} (h : ∀ k p, f k = some p → g k = some p) : ∀ (n k : Nat) (p : List UInt8 × Nat), txKD f n k = some p → txKD g n k = some p
  | 0, k, p, e => e
  | n + 1, k, p, e => by
    simp only [txKD, Option.bind_eq_some_iff, Option.map_eq_some_iff] at e ⊢
    obtain ⟨q, h1, u, h2, h3⟩ := e
    exact ⟨q, h _ _ h1, u, kids_mono h n _ _ h2, h3⟩
theorem txD_mono (xs : List ElemT) : ∀ (r k : Nat) (p : List UInt8 × Nat), txD xs r k = some p → txD xs (r + 1) k = some p
  | 0, k, p, e => by simp [txD] at e
  | r + 1, k, p, e => by
    rw [txD] at e ⊢
    split
    · rename_i hk
      rw [dif_pos hk] at e
      split
      · rename_i ho
        rw [if_pos ho] at e; cases e
      · rename_i ho
        rw [if_neg ho] at e
        obtain ⟨q, h1, h2⟩ := Option.map_eq_some_iff.1 e
        rw [kids_mono (txD_mono xs r) _ _ _ h1, Option.map_some, h2]
    · rename_i hk
      rw [dif_neg hk] at e; cases e
theorem txD_le (xs : List ElemT) {r k : Nat} {p : List UInt8 × Nat} (e : txD xs r k = some p) : ∀ d, txD xs (r + d) k = some p
  | 0 => e
  | d + 1 => txD_mono xs _ _ _ (txD_le xs e d)
theorem txD_one {xs : List ElemT} {r r' k : Nat} {p p' : List UInt8 × Nat} (e : txD xs r k = some p) (e' : txD xs r' k = some p') : p = p' := by
  have a := txD_le xs e r'
  have b := txD_le xs e' r
  rw [Nat.add_comm] at b
  rw [a] at b
  exact Option.some.inj b
/-- What PartText answers. -/
def PartIs (xs : List ElemT) (at_ : Int) (A : List UInt8) : Prop :=
  (¬ (GDoc xs ∧ 0 ≤ at_ ∧ at_ < (xs.length : Int)) ∧ A = []) ∨ (GDoc xs ∧ ∃ (r k k' : Nat) (T : List UInt8), at_ = (k : Int) ∧ k < xs.length ∧ txD xs r k = some (T, k') ∧ A = bnd T)
theorem PartIs.uniq {xs : List ElemT} {a : Int} {A B : List UInt8} (h1 : PartIs xs a A) (h2 : PartIs xs a B) : A = B := by
  rcases h1 with ⟨n1, rfl⟩ | ⟨g1, r, k, k', T, rfl, hk, e, rfl⟩
  · rcases h2 with ⟨n2, rfl⟩ | ⟨g2, r, k, k', T, rfl, hk, e, rfl⟩
    · rfl
    · exact absurd ⟨g2, by omega, by omega⟩ n1
  · rcases h2 with ⟨n2, rfl⟩ | ⟨g2, r', j, j', T', hj, hk', e', rfl⟩
    · exact absurd ⟨g1, by omega, by omega⟩ n2
    · have : j = k := by omega
      subst this
      have := txD_one e e'
      simp only [Prod.mk.injEq] at this
      rw [this.1]
open Classical in
noncomputable def partTx (xs : List ElemT) (a : Int) : List UInt8 := if h : ∃ A, PartIs xs a A then h.choose else []
theorem PartIs.eq {xs : List ElemT} {a : Int} {A : List UInt8} (h : PartIs xs a A) : A = partTx xs a := by
  have e : ∃ A, PartIs xs a A := ⟨A, h⟩
  unfold partTx
  rw [dif_pos e]
  exact h.uniq e.choose_spec
theorem elemText_any (l : List ElemE) (b off cap : Nat) (hr : ∀ x ∈ l, RightE x.t) (hl : l.length ≤ 60) : ∀ r, Txt r l b off cap
  | 0 => fun k k' t v w h => by simp [takeD] at h
  | r + 1 => elemText_step r l b off cap hr hl (elemText_any l b off cap hr hl r)
/-- In a good document each number has its tree. -/
theorem gdoc_at {l : List ElemE} (g : GDoc (l.map (·.t))) (k : Nat) (hk : k < l.length) : ∃ x r k', takeD l r k = some (x, k') := by
  obtain ⟨T, hT⟩ := (gdoc_take (by simpa using g.1) (fun x hx => (g.2.1 _ (List.mem_map_of_mem hx)).r)).1 g
  obtain ⟨x, r, k', _, h⟩ := (take_find 12 0 T l.length hT).2.2 k (Nat.zero_le _) hk
  exact ⟨x, r, k', h⟩
set_option maxRecDepth 100000 in
set_option maxHeartbeats 4000000 in
theorem partText_any (h : Hd) (l : List ElemE) (k k' r : Nat) (t : DT) (w : World) (hr : ∀ x ∈ l, RightE x.t) (hl : l.length ≤ 60) (ht : takeD l r k = some (t, k')) (hs : SqElemE w 0 h l) (hc : h.len ≤ h.cap) (hm : MarksAt w) :
    Calls Tryd.prog 21 #[.slice h.a h.len h.cap, .int .i64 (k : Int)] w fun e w' => e = .returned (.string ⟨(bnd t.tx).toArray⟩) ∧ Below w.heap.size w w' := by
  have hlen := hs.1
  have hb := dtx_len hr _ _ _ _ ht
  have hk : k < l.length := by omega
  obtain ⟨b, off, ha, row⟩ := hs.at (show k < h.len by omega)
  obtain ⟨a, len, cap⟩ := h
  simp only at ha hlen hc ⊢
  subst ha hlen
  have hS1 : t.tx.length ≤ 720000 := by rw [← (take_in _ _ _ _ ht).2]; omega
  obtain ⟨S, hS⟩ : ∃ S : ByteArray, ⟨t.tx.toArray⟩ = S := ⟨_, rfl⟩
  have HSd := show S.data.toList = t.tx by rw [← hS]
  have hSl : S.size = t.tx.length := by rw [Lib.size_eq, HSd]
  have q := hide (elemText_any l b off cap hr hl r k k' t (.slice (some ⟨b, off + k * 5, none⟩) (l.length - k) (cap - k)) w ht ⟨_, rfl, fun _ => rfl⟩ ⟨row, hs.2.2, hc⟩ hm)
  rw [(take_in _ _ _ _ ht).2, hS] at q
  have e1 : (k : Int) ≤ (l.length : Int) := by omega
  have e2 : (l.length : Int) ≤ (cap : Int) := by omega
  have e3 : ¬ cap - k = 0 := by omega
  have e0 : (0 : Int) ≤ (k : Int) := by omega
  clear ht hs hm hb hr row
  go_enter Tryd.func21, Tryd.ntmps21
  go_wp2_with fail
  refine (unhide q).mono ?_
  rintro e w1 ⟨⟨v', rfl, ⟨o', rfl, _⟩⟩, hb1⟩
  clear q
  by_cases h8 : 8000 < S.size
  · have hb := hide (show bnd t.tx = [] by unfold bnd; rw [if_pos (by omega)])
    have h1 : (8000 : Int) < (S.size : Int) := by omega
    go_wp2_with fail
    go_ret
    exact ⟨by rw [unhide hb]; rfl, hb1⟩
  · have hb := hide (show bnd t.tx = t.tx by unfold bnd; rw [if_neg (by omega)])
    have h1 : ¬ (8000 : Int) < (S.size : Int) := by omega
    go_wp2_with fail
    go_ret
    exact ⟨congrArg (fun x => Ending.returned (Value.string x)) (beq_of (HSd.trans (unhide hb).symm)), hb1⟩
set_option maxRecDepth 100000 in
set_option maxHeartbeats 4000000 in
theorem iPartText_n (h : Hd) (xs : List ElemT) (a : Int) (w : World) (hn : ∀ x ∈ xs, ElemN x) (hl : xs.length ≤ maxLen) (hs : SqElem w 0 h xs) (hc : h.len ≤ h.cap) (hm : MarksAt w) :
    Calls Tryd.prog 11 #[.slice h.a h.len h.cap, .int .i64 a] w fun e w' => e = .returned (.string ⟨(partTx xs a).toArray⟩) ∧ Below w.heap.size w w' := by
  have q := hide (iGoodDoc_n h xs w hl hs hn)
  have hlen : h.len = xs.length := hs.len
  obtain ⟨l, hlx, hsE⟩ := hs
  have HS := hide hsE
  have HM := hide hm
  obtain ⟨ha, len, cap⟩ := h
  simp only at hlen hc q HS ⊢
  subst hlen
  clear hsE hm hl hn
  go_enter Tryd.func11, Tryd.ntmps11
  go_wp2_with fail
  refine (unhide q).mono ?_
  rintro e w1 ⟨⟨b, rfl, hb⟩, bb⟩
  have B1 := hide bb
  have S1 := hide ((unhide HS).keep bb)
  have M1 := hide ((unhide HM).keep bb)
  clear q bb HS HM
  cases b with
  | false =>
    have no := hide (show [] = partTx xs a from PartIs.eq (.inl ⟨fun g => (by have := hb.2 g.1; cases this), rfl⟩))
    clear hb
    go_wp2_with fail
    go_ret
    exact ⟨by rw [← unhide no]; rfl, unhide B1⟩
  | true =>
    have g := hb.1 (by trivial)
    have G := hide g
    have h60 := g.1
    clear hb g
    by_cases hin : 0 ≤ a ∧ a ≤ (xs.length : Int) - 1
    · obtain ⟨k, rfl⟩ : ∃ k : Nat, a = (k : Int) := ⟨a.toNat, by omega⟩
      have hk : k < xs.length := by omega
      have hl : l.length = xs.length := by rw [← hlx, List.length_map]
      have g2 := unhide G
      rw [← hlx] at g2
      obtain ⟨t, r, k', ht⟩ := gdoc_at g2 k (by omega)
      have tx := take_txD _ _ _ _ ht
      rw [hlx] at tx
      have yes := hide (show bnd t.tx = partTx xs (k : Int) from PartIs.eq (.inr ⟨unhide G, r, k, k', t.tx, rfl, hk, tx, rfl⟩))
      have qb := hide (fun w => betD_any 0 (k : Int) ((xs.length : Int) - 1) w)
      rw [show decide ((0 : Int) ≤ (k : Int) ∧ (k : Int) ≤ (xs.length : Int) - 1) = true from decide_eq_true hin] at qb
      have qp := hide (partText_any ⟨ha, xs.length, cap⟩ l k k' r t w1 (fun x hx => (g2.2.1 _ (List.mem_map_of_mem hx)).r) (by omega) ht (unhide S1) hc (unhide M1))
      simp only at qp
      clear ht g2 tx hin hk hl hlx
      go_wp2_with fail
      refine (unhide qb _).mono ?_
      rintro e w2 ⟨rfl, rfl⟩
      clear qb
      go_wp2_with fail
      refine (unhide qp).mono ?_
      rintro e w3 ⟨rfl, hb3⟩
      have HB := hide (bTr (unhide B1) hb3)
      clear hb3 qp B1 S1 M1
      rw [unhide yes]
      go_wp2_with fail
      go_ret
      exact ⟨rfl, unhide HB⟩
    · have no := hide (show [] = partTx xs a from PartIs.eq (.inl ⟨fun g => hin ⟨g.2.1, (by have := g.2.2; omega)⟩, rfl⟩))
      have qb := hide (fun w => betD_any 0 a ((xs.length : Int) - 1) w)
      rw [show decide ((0 : Int) ≤ a ∧ a ≤ (xs.length : Int) - 1) = false from decide_eq_false hin] at qb
      clear hin hlx
      go_wp2_with fail
      refine (unhide qb _).mono ?_
      rintro e w2 ⟨rfl, rfl⟩
      clear qb
      go_wp2_with fail
      go_ret
      exact ⟨by rw [← unhide no]; rfl, unhide B1⟩
set_option maxRecDepth 100000 in
theorem iDocText_n (h : Hd) (xs : List ElemT) (w : World) (hn : ∀ x ∈ xs, ElemN x) (hl : xs.length ≤ maxLen) (hs : SqElem w 0 h xs) (hc : h.len ≤ h.cap) (hm : MarksAt w) :
    Calls Tryd.prog 8 #[.slice h.a h.len h.cap] w fun e w' => e = .returned (.string ⟨(partTx xs 0).toArray⟩) ∧ Below w.heap.size w w' := by
  have q := hide (iPartText_n h xs 0 w hn hl hs hc hm)
  clear hs hm hc
  go_enter Tryd.func8, Tryd.ntmps8
  go_wp2_with fail
  refine (unhide q).mono ?_
  rintro e w1 ⟨rfl, hb⟩
  go_wp2_with fail
  go_ret
  exact ⟨rfl, hb⟩
end Go.Proofs.YtdhpfhpegaekpaaDoor.V
