/- The order of atoms; the set of a list, rising. -/
import Derived.Test.YtlnmhjihfolliaaWValS
namespace Go.Proofs.Ytlnmhjihfolliaa.V
open Go.RowKit

/-- A comparison that is an order. -/
structure Ord3 {α : Type} (c : α → α → Int) : Prop where
  self : ∀ a, c a a = 0
  zero : ∀ a b, c a b = 0 → a = b
  anti : ∀ a b, c a b < 0 ↔ 0 < c b a
  tr : ∀ a b d, c a b < 0 → c b d < 0 → c a d < 0
theorem ord_N : Ord3 cmpN where
  self := cmpN_self
  zero _ _ h := cmpN_zero h
  anti a b := by unfold cmpN; (repeat' split) <;> omega
  tr a b d := by unfold cmpN; intro h k; (repeat' split at h) <;> (repeat' split at k) <;> (repeat' split) <;> omega
theorem cmpT_anti : ∀ a b : List UInt8, cmpT a b < 0 ↔ 0 < cmpT b a
  | [], [] => by simp [cmpT]
  | [], _ :: _ => by simp [cmpT]
  | _ :: _, [] => by simp [cmpT]
  | x :: a, y :: b => by
    have ih := cmpT_anti a b
    unfold cmpT
    by_cases h : x = y
    · subst h; simpa using ih
    · have h' : ¬ y = x := fun e => h e.symm
      simp only [h, h', if_false]
      exact ord_N.anti _ _
theorem cmpT_tr : ∀ a b d : List UInt8, cmpT a b < 0 → cmpT b d < 0 → cmpT a d < 0
  | [], [], d => by intro h; simp [cmpT] at h
  | [], _ :: _, [] => by intro _ h; simp [cmpT] at h
  | [], _ :: _, _ :: _ => by intro _ _; simp [cmpT]
  | _ :: _, [], d => by intro h; simp [cmpT] at h
  | _ :: _, _ :: _, [] => by intro _ h; simp [cmpT] at h
  | x :: a, y :: b, z :: d => by
    have ih := cmpT_tr a b d
    unfold cmpT
    intro h k
    by_cases e1 : x = y
    · subst e1
      by_cases e2 : x = z
      · subst e2; simp only [if_true] at *; exact ih h k
      · simp only [if_true, e2, if_false] at *; exact k
    · by_cases e2 : y = z
      · subst e2; simp only [e1, if_false, if_true] at *; exact h
      · simp only [e1, e2, if_false] at h k
        have t := ord_N.tr _ _ _ h k
        by_cases e3 : x = z
        · subst e3; rw [cmpN_self] at t; omega
        · simp only [e3, if_false]; exact t
theorem ord_T : Ord3 cmpT := ⟨cmpT_self, fun _ _ h => cmpT_zero h, cmpT_anti, cmpT_tr⟩
theorem Ord3.both {α β : Type} {c : α → α → Int} {d : β → β → Int} (hc : Ord3 c) (hd : Ord3 d) : Ord3 (fun (a b : α × β) => orI (c a.1 b.1) (d a.2 b.2)) where
  self a := by unfold orI; rw [hc.self, if_pos rfl, hd.self]
  zero a b h := by
    unfold orI at h
    by_cases e : c a.1 b.1 = 0
    · rw [if_pos e] at h
      exact Prod.ext (hc.zero _ _ e) (hd.zero _ _ h)
    · rw [if_neg e] at h; exact absurd h e
  anti a b := by
    unfold orI
    by_cases e : c a.1 b.1 = 0
    · have e1 := hc.zero _ _ e
      have e2 : c b.1 a.1 = 0 := by rw [e1]; exact hc.self _
      rw [if_pos e, if_pos e2]; exact hd.anti _ _
    · have e2 : ¬ c b.1 a.1 = 0 := fun h => e (by rw [hc.zero _ _ h]; exact hc.self _)
      rw [if_neg e, if_neg e2]; exact hc.anti _ _
  tr a b f h k := by
    unfold orI at *
    by_cases e : c a.1 b.1 = 0
    · have e1 := hc.zero _ _ e
      rw [if_pos e] at h
      rw [e1]
      by_cases e2 : c b.1 f.1 = 0
      · rw [if_pos e2] at *; exact hd.tr _ _ _ h k
      · rw [if_neg e2] at *; exact k
    · rw [if_neg e] at h
      by_cases e2 : c b.1 f.1 = 0
      · rw [← hc.zero _ _ e2, if_neg e]; exact h
      · rw [if_neg e2] at k
        have t := hc.tr _ _ _ h k
        rw [if_neg (by omega)]; exact t
theorem ord_A : Ord3 AtomT.cmp := by
  have h := ord_N.both (ord_N.both (ord_T.both ord_T))
  have e : ∀ a b : AtomT, a.cmp b = (fun (a b : Int × Int × List UInt8 × List UInt8) => orI (cmpN a.1 b.1) (orI (cmpN a.2.1 b.2.1) (orI (cmpT a.2.2.1 b.2.2.1) (cmpT a.2.2.2 b.2.2.2)))) (a.x, a.n, a.y.data.toList, a.t.data.toList) (b.x, b.n, b.y.data.toList, b.t.data.toList) := fun _ _ => rfl
  refine ⟨fun a => by rw [e]; exact h.self _, fun a b k => ?_, fun a b => by rw [e, e]; exact h.anti _ _, fun a b d k1 k2 => by rw [e] at *; exact h.tr _ _ _ k1 k2⟩
  rw [e] at k
  have := h.zero _ _ k
  simp only [Prod.mk.injEq] at this
  obtain ⟨h1, h2, h3, h4⟩ := this
  cases a; cases b
  simp only at h1 h2 h3 h4
  rw [h1, h2, Go.WideShapes.bytes_inj h3, Go.WideShapes.bytes_inj h4]
theorem Ord3.tri {α : Type} {c : α → α → Int} (h : Ord3 c) (a b : α) : c a b < 0 ∨ a = b ∨ c b a < 0 := by
  rcases Int.lt_trichotomy (c a b) 0 with k | k | k
  · exact .inl k
  · exact .inr (.inl (h.zero _ _ k))
  · exact .inr (.inr ((h.anti b a).2 k))
theorem Ord3.irr {α : Type} {c : α → α → Int} (h : Ord3 c) (a : α) : ¬ c a a < 0 := by rw [h.self]; omega

theorem ris_ext {α : Type} {R : α → α → Prop} (irr : ∀ a, ¬ R a a) (tr : ∀ a b c, R a b → R b c → R a c) : ∀ {l l' : List α}, l.Pairwise R → l'.Pairwise R → (∀ x, x ∈ l ↔ x ∈ l') → l = l'
  | [], [], _, _, _ => rfl
  | [], b :: t, _, _, h => absurd ((h b).2 (by simp)) (by simp)
  | a :: t, [], _, _, h => absurd ((h a).1 (by simp)) (by simp)
  | a :: t, b :: t', h1, h2, h => by
    have h1' := List.pairwise_cons.1 h1
    have h2' := List.pairwise_cons.1 h2
    have e : a = b := Classical.byContradiction fun e => by
      have k1 : a ∈ t' := by have := (h a).1 (by simp); rcases List.mem_cons.1 this with k | k; exact absurd k e; exact k
      have k2 : b ∈ t := by have := (h b).2 (by simp); rcases List.mem_cons.1 this with k | k; exact absurd k.symm e; exact k
      exact irr a (tr _ _ _ (h1'.1 b k2) (h2'.1 a k1))
    subst e
    congr 1
    refine ris_ext irr tr h1'.2 h2'.2 fun x => ⟨fun k => ?_, fun k => ?_⟩
    · have := (h x).1 (List.mem_cons_of_mem _ k)
      rcases List.mem_cons.1 this with e | e
      · subst e; exact absurd (h1'.1 _ k) (irr _)
      · exact e
    · have := (h x).2 (List.mem_cons_of_mem _ k)
      rcases List.mem_cons.1 this with e | e
      · subst e; exact absurd (h2'.1 _ k) (irr _)
      · exact e
/-- The set of a list: rising, with the list's members. -/
structure SetR (l r : List AtomT) : Prop where
  ris : r.Pairwise (fun a b => a.cmp b < 0)
  mem : ∀ x, x ∈ r ↔ x ∈ l
theorem SetR.uniq {l r r' : List AtomT} (h : SetR l r) (k : SetR l r') : r = r' := ris_ext (fun a => ord_A.irr a) (fun a b c => ord_A.tr a b c) h.ris k.ris (fun x => by rw [h.mem, k.mem])
theorem SetR.nil : SetR [] [] := ⟨List.Pairwise.nil, fun _ => Iff.rfl⟩
theorem nd_len {α : Type} : ∀ {r l : List α}, r.Nodup → (∀ x ∈ r, x ∈ l) → r.length ≤ l.length
  | [], _, _, _ => Nat.zero_le _
  | a :: r, l, h, k => by
    obtain ⟨s, t, e⟩ := List.append_of_mem (k a (by simp))
    have h' := List.pairwise_cons.1 h
    have := nd_len (r := r) (l := s ++ t) h'.2 (fun x hx => by
      have h1 := k x (List.mem_cons_of_mem _ hx)
      rw [e, List.mem_append, List.mem_cons] at h1
      rw [List.mem_append]
      rcases h1 with h1 | h1 | h1
      · exact .inl h1
      · exact absurd h1.symm (h'.1 x hx)
      · exact .inr h1)
    rw [e]
    simp only [List.length_append, List.length_cons] at *
    omega
theorem SetR.len {l r : List AtomT} (h : SetR l r) : r.length ≤ l.length := by
  have nd : r.Nodup := h.ris.imp (fun {a b} k e => by subst e; exact ord_A.irr _ k)
  exact nd_len nd (fun x hx => (h.mem x).1 hx)
theorem SetR.snoc {l r : List AtomT} {x : AtomT} (h : SetR l r) (hx : ∀ y ∈ l, y.cmp x < 0) : SetR (l ++ [x]) (r ++ [x]) := by
  refine ⟨List.pairwise_append.2 ⟨h.ris, by simp, fun a ha b hb => ?_⟩, fun y => by simp [h.mem]⟩
  rw [List.mem_singleton.1 hb]; exact hx a ((h.mem a).1 ha)
theorem SetR.again {l r : List AtomT} {x : AtomT} (h : SetR l r) (hx : x ∈ l) : SetR (l ++ [x]) r :=
  ⟨h.ris, fun y => by
    rw [h.mem, List.mem_append, List.mem_singleton]
    exact ⟨.inl, fun k => k.elim id (fun k => by rw [k]; exact hx)⟩⟩
end Go.Proofs.Ytlnmhjihfolliaa.V
