/- The tree's text, and the tree of a number: pure. -/
import Derived.Test.YtdhpfhpegaekpaaDoorEMc
namespace Go.Proofs.YtdhpfhpegaekpaaDoor.V
set_option linter.unusedSimpArgs false
set_option linter.unusedVariables false
open Go.RowKit

mutual
def DT.tx : DT → List UInt8
  | .node x _ ks => hdx x.t ++ DT.txs ks ++ endx x.t
def DT.txs : List DT → List UInt8
  | [] => []
  | t :: ts => t.tx ++ DT.txs ts
end
mutual
def DT.find (a : Int) : DT → Option DT
  | .node x j ks => if (j : Int) = a then some (.node x j ks) else DT.finds a ks
def DT.finds (a : Int) : List DT → Option DT
  | [] => none
  | t :: ts => (t.find a).or (DT.finds a ts)
end
theorem txs_flat : ∀ (ts : List DT), DT.txs ts = ts.flatMap DT.tx
  | [] => by simp [DT.txs]
  | t :: ts => by rw [DT.txs, txs_flat ts, List.flatMap_cons]
theorem tx_node (x : ElemE) (k : Nat) (ks : List DT) : (DT.node x k ks).tx = hdx x.t ++ ks.flatMap DT.tx ++ endx x.t := by rw [DT.tx, txs_flat]
/-- All elements of a tree. -/
inductive AllD (P : ElemE → Prop) : DT → Prop
  | mk {x : ElemE} {k : Nat} {ks : List DT} (h1 : P x) (h2 : ∀ t ∈ ks, AllD P t) : AllD P (.node x k ks)
theorem AllD.out {P : ElemE → Prop} {t : DT} (h : AllD P t) : P t.n ∧ ∀ k ∈ t.kids, AllD P k := by
  cases h with
  | mk h1 h2 => exact ⟨h1, h2⟩
theorem kids_in {l : List ElemE} {r : Nat} (ih : ∀ k t k', takeD l r k = some (t, k') → AllD (· ∈ l) t ∧ dtx r t = t.tx) :
    ∀ (n k : Nat) (ts : List DT) (k' : Nat), takeKD (takeD l r) n k = some (ts, k') → (∀ t ∈ ts, AllD (· ∈ l) t) ∧ ts.flatMap (dtx r) = ts.flatMap DT.tx
  | 0, k, ts, k', h => by simp [takeKD] at h; obtain ⟨rfl, rfl⟩ := h; simp
  | n + 1, k, ts, k', h => by
    simp only [takeKD, Option.bind_eq_some_iff, Option.map_eq_some_iff, Prod.exists, Prod.mk.injEq] at h
    obtain ⟨t, k1, h1, us, k2, h2, rfl, rfl⟩ := h
    have a := ih _ _ _ h1
    have b := kids_in ih n k1 us k2 h2
    refine ⟨fun x hx => ?_, by rw [List.flatMap_cons, List.flatMap_cons, a.2, b.2]⟩
    rcases List.mem_cons.1 hx with rfl | hx
    · exact a.1
    · exact b.1 x hx
theorem take_in {l : List ElemE} : ∀ (r k : Nat) (t : DT) (k' : Nat), takeD l r k = some (t, k') → AllD (· ∈ l) t ∧ dtx r t = t.tx
  | 0, k, t, k', h => by simp [takeD] at h
  | r + 1, k, t, k', h => by
    obtain ⟨hk, n, ks, _, _, h1, rfl⟩ := take_inv h
    have a := kids_in (take_in r) _ (k + 1) ks k' h1
    exact ⟨.mk (List.getElem_mem hk) a.1, by rw [tx_node]; simp only [dtx, DT.n, DT.kids, a.2]⟩
/-- What a tree's own search comes to. -/
def FindO (l : List ElemE) (f : Int → Option DT) (k0 k1 : Nat) : Prop := (∀ a : Int, a < k0 ∨ k1 ≤ a → f a = none) ∧ ∀ k : Nat, k0 ≤ k → k < k1 → ∃ x r k', f k = some x ∧ takeD l r k = some (x, k')
theorem kids_find {l : List ElemE} {r : Nat} (ih : ∀ k t k', takeD l r k = some (t, k') → k < k' ∧ FindO l (fun a => t.find a) k k') :
    ∀ (n k : Nat) (ts : List DT) (k' : Nat), takeKD (takeD l r) n k = some (ts, k') → k ≤ k' ∧ FindO l (fun a => DT.finds a ts) k k'
  | 0, k, ts, k', h => by
    simp [takeKD] at h; obtain ⟨rfl, rfl⟩ := h
    exact ⟨Nat.le_refl _, fun a _ => by simp [DT.finds], fun j h1 h2 => by omega⟩
  | n + 1, k, ts, k', h => by
    simp only [takeKD, Option.bind_eq_some_iff, Option.map_eq_some_iff, Prod.exists, Prod.mk.injEq] at h
    obtain ⟨t, k1, h1, us, k2, h2, rfl, rfl⟩ := h
    obtain ⟨l1, a1, a2⟩ := ih _ _ _ h1
    obtain ⟨l2, b1, b2⟩ := kids_find ih n k1 us k2 h2
    refine ⟨by omega, fun a ha => ?_, fun j hj1 hj2 => ?_⟩
    · have e1 := a1 a (by omega)
      have e2 := b1 a (by omega)
      simp only at e1 e2
      simp only [DT.finds, e1, e2, Option.or_none]
    · by_cases hj : j < k1
      · obtain ⟨x, r', q, f1, f2⟩ := a2 j hj1 hj
        simp only at f1
        exact ⟨x, r', q, by simp only [DT.finds, f1, Option.some_or], f2⟩
      · obtain ⟨x, r', q, f1, f2⟩ := b2 j (by omega) hj2
        have e1 := a1 (j : Int) (by omega)
        simp only at f1 e1
        exact ⟨x, r', q, by simp only [DT.finds, e1, f1, Option.none_or], f2⟩
theorem take_find {l : List ElemE} : ∀ (r k : Nat) (t : DT) (k' : Nat), takeD l r k = some (t, k') → k < k' ∧ FindO l (fun a => t.find a) k k'
  | 0, k, t, k', h => by simp [takeD] at h
  | r + 1, k, t, k', h => by
    have h0 := h
    obtain ⟨hk, n, ks, _, _, h1, rfl⟩ := take_inv h
    obtain ⟨l1, a1, a2⟩ := kids_find (take_find r) _ (k + 1) ks k' h1
    refine ⟨by omega, fun a ha => ?_, fun j hj1 hj2 => ?_⟩
    · have e := a1 a (by omega)
      simp only at e
      simp only [DT.find, e]
      rw [if_neg (by omega)]
    · by_cases hj : j = k
      · subst hj
        exact ⟨_, r + 1, k', by simp only [DT.find, if_true], h0⟩
      · obtain ⟨x, r', q, f1, f2⟩ := a2 j (by omega) hj2
        simp only at f1
        refine ⟨x, r', q, ?_, f2⟩
        simp only [DT.find, f1]
        rw [if_neg (by omega)]
/-- A text of a document, or nothing beyond 8000 bytes. -/
def bnd (x : List UInt8) : List UInt8 := if 8000 < x.length then [] else x
end Go.Proofs.YtdhpfhpegaekpaaDoor.V
