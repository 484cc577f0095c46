/- RotateRing: which ring it is. Pure. -/
import Derived.Test.YtenbliiombjldaaKRs
import Derived.Test.YtenbliiombjldaaGPur
namespace Go.Proofs.Ytenbliiombjldaa
open Go.RowKit

theorem cmpT_lt : ∀ a b : List UInt8, cmpT a b < 0 ↔ a < b
  | [], [] => by simp [cmpT]
  | [], b :: y => by simp [cmpT]
  | a :: x, [] => by simp [cmpT]
  | a :: x, b :: y => by
    rw [List.cons_lt_cons_iff]
    unfold cmpT
    by_cases e : a = b
    · subst e
      rw [if_pos rfl, cmpT_lt x y]
      have : ¬ a < a := fun h => by rw [UInt8.lt_iff_toNat_lt] at h; omega
      simp [this]
    · rw [if_neg e]
      have h1 : cmpN a.toNat b.toNat < 0 ↔ a < b := by
        rw [UInt8.lt_iff_toNat_lt]
        unfold cmpN
        repeat (any_goals split)
        all_goals omega
      rw [h1]
      simp [e]
theorem lt_tri : ∀ a b : List UInt8, a < b ∨ a = b ∨ b < a
  | [], [] => .inr (.inl rfl)
  | [], _ :: _ => .inl (by simp)
  | _ :: _, [] => .inr (.inr (by simp))
  | x :: a, y :: b => by
    rw [List.cons_lt_cons_iff, List.cons_lt_cons_iff]
    rcases Nat.lt_trichotomy x.toNat y.toNat with h | h | h
    · exact .inl (.inl (UInt8.lt_iff_toNat_lt.2 h))
    · have e : x = y := UInt8.toNat_inj.1 h
      subst e
      rcases lt_tri a b with h | h | h
      · exact .inl (.inr ⟨rfl, h⟩)
      · exact .inr (.inl (by rw [h]))
      · exact .inr (.inr (.inr ⟨rfl, h⟩))
    · exact .inr (.inr (.inl (UInt8.lt_iff_toNat_lt.2 h)))
def cmpK (x y : KeyT) : Int := cmpT x.f0.data.toList y.f0.data.toList
theorem cmpK_irr (x : KeyT) : ¬ cmpK x x < 0 := by unfold cmpK; rw [cmpT_self]; omega
theorem cmpK_tr (x y z : KeyT) (h1 : cmpK x y < 0) (h2 : cmpK y z < 0) : cmpK x z < 0 := by
  unfold cmpK at *
  rw [cmpT_lt] at *
  exact List.lt_trans h1 h2
theorem cmpK_tri (x y : KeyT) : cmpK x y < 0 ∨ x.f0.data.toList = y.f0.data.toList ∨ cmpK y x < 0 := by
  unfold cmpK
  rw [cmpT_lt, cmpT_lt]
  exact lt_tri _ _
theorem cmpK_anti {x y : KeyT} (h : 0 < cmpK x y) : cmpK y x < 0 := by
  rcases cmpK_tri x y with k | k | k
  · omega
  · unfold cmpK at h; rw [k, cmpT_self] at h; omega
  · exact k
theorem cmpK_ne {x y : KeyT} (h : cmpK x y < 0) : ¬ x.f0.data.toList = y.f0.data.toList := fun e => by unfold cmpK at h; rw [e, cmpT_self] at h; omega
/-- What is left of a key. -/
def kp (t e : Int) (x : KeyT) : Option KeyT := if t ≤ x.f3 ∧ x.f2 ≤ e then some ⟨x.f0, x.f1, x.f2, min x.f3 e⟩ else none
def kpt (t e : Int) (l : List KeyT) : List KeyT := l.filterMap (kp t e)
theorem kpt_yes {t e : Int} {l : List KeyT} {x : KeyT} (h : t ≤ x.f3 ∧ x.f2 ≤ e) : kpt t e (l ++ [x]) = kpt t e l ++ [⟨x.f0, x.f1, x.f2, min x.f3 e⟩] := by
  unfold kpt
  rw [List.filterMap_append]
  simp [kp, h]
theorem kpt_no {t e : Int} {l : List KeyT} {x : KeyT} (h : ¬ (t ≤ x.f3 ∧ x.f2 ≤ e)) : kpt t e (l ++ [x]) = kpt t e l := by
  unfold kpt
  rw [List.filterMap_append]
  simp [kp, h]
theorem kpt_len (t e : Int) (l : List KeyT) : (kpt t e l).length ≤ l.length := List.length_filterMap_le ..
theorem take_snocK {α : Type} {l : List α} {k : Nat} (h : k < l.length) : l.take (k + 1) = l.take k ++ [l[k]] := by rw [List.take_add_one]; simp [h]
theorem kp_f0 {t e : Int} {x y : KeyT} (h : kp t e x = some y) : y.f0 = x.f0 := by
  unfold kp at h
  split at h
  · cases h; rfl
  · cases h
theorem kpt_mem {t e : Int} {l : List KeyT} {y : KeyT} (h : y ∈ kpt t e l) : ∃ x ∈ l, y.f0 = x.f0 := by
  obtain ⟨x, hx, e⟩ := List.mem_filterMap.1 h
  exact ⟨x, hx, kp_f0 e⟩
/-- Not falling. -/
def WS (l : List KeyT) : Prop := l.Pairwise (fun a b => ¬ cmpK b a < 0)
theorem adj_pair : ∀ (l : List KeyT), (∀ i (h : i + 1 < l.length), cmpK l[i] l[i + 1] < 0) → l.Pairwise (fun a b => cmpK a b < 0)
  | [], _ => .nil
  | [a], _ => by simp
  | a :: b :: l, h => by
    have ih := adj_pair (b :: l) (fun i hi => by have := h (i + 1) (by simpa using hi); simpa using this)
    have h0 : cmpK a b < 0 := by have := h 0 (by simp); simpa using this
    refine List.pairwise_cons.2 ⟨fun c hc => ?_, ih⟩
    rcases List.mem_cons.1 hc with rfl | hc
    · exact h0
    · exact cmpK_tr _ _ _ h0 ((List.pairwise_cons.1 ih).1 c hc)
theorem RingP.pair {l : List KeyT} (h : RingP l) : l.Pairwise (fun a b => cmpK a b < 0) := adj_pair l h.2.2
theorem kpt_pair {t e : Int} {l : List KeyT} (h : l.Pairwise (fun a b => cmpK a b < 0)) : (kpt t e l).Pairwise (fun a b => cmpK a b < 0) := by
  unfold kpt
  rw [List.pairwise_filterMap]
  refine h.imp fun {a b} hab x hx y hy => ?_
  have e1 := kp_f0 hx
  have e2 := kp_f0 hy
  unfold cmpK at *
  rw [e1, e2]
  exact hab
theorem ring_of {s O : List KeyT} (hp : O.Perm s) (hs : RingP s) (hw : WS O) : RingP O := by
  have h1 : s.Pairwise (fun a b => ¬ a.f0.data.toList = b.f0.data.toList) := hs.pair.imp fun h => cmpK_ne h
  have h2 : O.Pairwise (fun a b => ¬ a.f0.data.toList = b.f0.data.toList) := (hp.pairwise_iff (fun h e => h e.symm)).2 h1
  have h3 : O.Pairwise (fun a b => cmpK a b < 0) := (hw.and h2).imp fun {a b} h => by
    rcases cmpK_tri a b with k | k | k
    · exact k
    · exact absurd k h.2
    · exact absurd k h.1
  refine ⟨by have := hs.1; rw [hp.length_eq]; exact this, fun x hx => hs.2.1 x (hp.mem_iff.1 hx), fun i hi => ?_⟩
  exact (List.pairwise_iff_getElem.1 h3) i (i + 1) (by omega) hi (by omega)
def RotOk (l : List KeyT) (t g : Int) : Prop := RingP l ∧ (0 ≤ t ∧ t ≤ 100000000000) ∧ (0 ≤ g ∧ g ≤ 100000000000)
/-- What RotateRing answers. -/
def RotIs (l : List KeyT) (n : KeyT) (t g : Int) (r : List KeyT) : Prop :=
  (RotOk l t g ∧ r.Perm (kpt t (t + g) l ++ [n]) ∧ RingP r) ∨ (r = [] ∧ ¬ (RotOk l t g ∧ ∃ s : List KeyT, s.Perm (kpt t (t + g) l ++ [n]) ∧ RingP s))
theorem RotIs.yes {l : List KeyT} {n : KeyT} {t g : Int} {X : List KeyT} (ok : RotOk l t g) (hp : X.Perm (kpt t (t + g) l ++ [n])) (h : RingP X) : RotIs l n t g X := .inl ⟨ok, hp, h⟩
theorem RotIs.no {l : List KeyT} {n : KeyT} {t g : Int} {X : List KeyT} (hp : X.Perm (kpt t (t + g) l ++ [n])) (hw : WS X) (h : ¬ RingP X) : RotIs l n t g [] :=
  .inr ⟨rfl, fun ⟨_, _, h1, h2⟩ => h (ring_of (hp.trans h1.symm) h2 hw)⟩
theorem RotIs.bad {l : List KeyT} {n : KeyT} {t g : Int} (h : ¬ RotOk l t g) : RotIs l n t g [] := .inr ⟨rfl, fun k => h k.1⟩
theorem RotIs.len {l : List KeyT} {n : KeyT} {t g : Int} {r : List KeyT} (h : RotIs l n t g r) : r.length ≤ 1000 := by
  rcases h with h | h
  · have := h.2.2.1; omega
  · rw [h.1]; simp
theorem RotIs.uniq {l : List KeyT} {n : KeyT} {t g : Int} {r r' : List KeyT} (h : RotIs l n t g r) (h' : RotIs l n t g r') : r = r' := by
  rcases h with ⟨a, b, c⟩ | ⟨a, b⟩ <;> rcases h' with ⟨a', b', c'⟩ | ⟨a', b'⟩
  · exact rising_ext (fun a b => cmpK a b < 0) cmpK_irr cmpK_tr r r' c.pair c'.pair (fun x => (b.trans b'.symm).mem_iff)
  · exact absurd ⟨a, r, b, c⟩ b'
  · exact absurd ⟨a', r', b', c'⟩ b
  · rw [a, a']
/-- How far the specification's walk has come. -/
def RotI (l : List KeyT) (n : KeyT) (t e : Int) (k : Nat) (put : Bool) (O : List KeyT) : Prop :=
  (put = false ∧ O = kpt t e (l.take k) ∧ ∀ x ∈ l.take k, 0 < cmpK n x) ∨
  (put = true ∧ ∃ A B : List KeyT, l.take k = A ++ B ∧ O = kpt t e A ++ n :: kpt t e B ∧ (∀ x ∈ A, 0 < cmpK n x) ∧ ∃ b B', B = b :: B' ∧ cmpK n b ≤ 0)
theorem RotI.start (l : List KeyT) (n : KeyT) (t e : Int) : RotI l n t e 0 false [] := .inl ⟨rfl, by simp [kpt], by simp⟩
theorem RotI.len {l : List KeyT} {n : KeyT} {t e : Int} {k : Nat} {put : Bool} {O : List KeyT} (h : RotI l n t e k put O) (hk : k ≤ l.length) : O.length ≤ k + 1 := by
  rcases h with ⟨_, rfl, _⟩ | ⟨_, A, B, e1, rfl, _⟩
  · have := kpt_len t e (l.take k); simp at this; omega
  · have h1 := kpt_len t e A
    have h2 := kpt_len t e B
    have h3 : (l.take k).length = A.length + B.length := by rw [e1]; simp
    simp at h3 ⊢
    omega
theorem RotI.end0 {l : List KeyT} {n : KeyT} {t e : Int} {k : Nat} {O : List KeyT} (h : RotI l n t e k false O) (hk : l.length ≤ k) (hr : RingP l) : (O ++ [n]).Perm (kpt t e l ++ [n]) ∧ WS (O ++ [n]) := by
  rcases h with ⟨_, rfl, h3⟩ | ⟨h, _⟩
  · rw [List.take_of_length_le hk] at *
    refine ⟨List.Perm.refl _, ?_⟩
    unfold WS
    rw [List.pairwise_append]
    refine ⟨(kpt_pair hr.pair).imp fun {a b} h1 h2 => cmpK_irr _ (cmpK_tr _ _ _ h1 h2), by simp, fun a ha b hb h2 => ?_⟩
    simp at hb
    subst hb
    obtain ⟨x, hx, ex⟩ := kpt_mem ha
    have := h3 x hx
    unfold cmpK at *
    rw [ex] at h2
    omega
  · cases h
theorem RotI.end1 {l : List KeyT} {n : KeyT} {t e : Int} {k : Nat} {O : List KeyT} (h : RotI l n t e k true O) (hk : l.length ≤ k) (hr : RingP l) : O.Perm (kpt t e l ++ [n]) ∧ WS O := by
  rcases h with ⟨h, _⟩ | ⟨_, A, B, e1, rfl, h3, b, B', rfl, h4⟩
  · cases h
  · rw [List.take_of_length_le hk] at e1
    have hp := hr.pair
    rw [e1] at hp ⊢
    have hpa := List.pairwise_append.1 hp
    have hkp : kpt t e (A ++ b :: B') = kpt t e A ++ kpt t e (b :: B') := by unfold kpt; rw [List.filterMap_append]
    refine ⟨?_, ?_⟩
    · rw [hkp]
      refine List.perm_middle.trans ?_
      exact (List.perm_append_comm (l₁ := [n]))
    · unfold WS
      rw [List.pairwise_append, List.pairwise_cons]
      have w1 := fun {x y : KeyT} (h : cmpK x y < 0) (h2 : cmpK y x < 0) => cmpK_irr _ (cmpK_tr _ _ _ h h2)
      have hb : ∀ x ∈ (b :: B'), ¬ cmpK x n < 0 := fun x hx h => by
        rcases List.mem_cons.1 hx with rfl | hx
        · rcases cmpK_tri n x with q | q | q
          · exact w1 h q
          · exact cmpK_ne h q.symm
          · have : cmpK n x = 0 ∨ cmpK n x < 0 := by omega
            rcases this with h5 | h5
            · have h6 := cmpT_zero h5
              exact cmpK_ne q h6.symm
            · exact w1 h h5
        · have h7 := (List.pairwise_cons.1 hpa.2.1).1 x hx
          have h8 := cmpK_tr _ _ _ h7 h
          rcases (show cmpK n b = 0 ∨ cmpK n b < 0 by omega) with h5 | h5
          · have h6 := cmpT_zero h5
            exact cmpK_ne h8 h6.symm
          · exact w1 h8 h5
      refine ⟨(kpt_pair hpa.1).imp fun h1 h2 => w1 h1 h2, ⟨fun x hx h => ?_, (kpt_pair hpa.2.1).imp fun h1 h2 => w1 h1 h2⟩, fun a ha x hx h => ?_⟩
      · obtain ⟨y, hy, ey⟩ := kpt_mem hx
        refine hb y hy ?_
        unfold cmpK at *
        rw [ey] at h
        exact h
      · obtain ⟨y, hy, ey⟩ := kpt_mem ha
        have h1 := h3 y hy
        rcases List.mem_cons.1 hx with rfl | hx
        · unfold cmpK at *
          rw [ey] at h
          omega
        · obtain ⟨z, hz, ez⟩ := kpt_mem hx
          have h2 := hpa.2.2 y hy z hz
          refine w1 h2 ?_
          unfold cmpK at *
          rw [ey, ez] at h
          exact h
theorem RotI.put {l : List KeyT} {n : KeyT} {t e : Int} {k : Nat} {O : List KeyT} (h : RotI l n t e k false O) (hk : k < l.length) (hc : cmpK n l[k] ≤ 0) : ∀ O', (t ≤ l[k].f3 ∧ l[k].f2 ≤ e → O' = O ++ [n] ++ [⟨l[k].f0, l[k].f1, l[k].f2, min l[k].f3 e⟩]) → (¬ (t ≤ l[k].f3 ∧ l[k].f2 ≤ e) → O' = O ++ [n]) → RotI l n t e (k + 1) true O' := by
  intro O' h1 h2
  rcases h with ⟨_, rfl, h3⟩ | ⟨h, _⟩
  · refine .inr ⟨rfl, l.take k, [l[k]], take_snocK hk, ?_, h3, l[k], [], rfl, hc⟩
    by_cases q : t ≤ l[k].f3 ∧ l[k].f2 ≤ e
    · rw [h1 q]; simp [kpt, kp, q]
    · rw [h2 q]; simp [kpt, kp, q]
  · cases h
theorem RotI.step0 {l : List KeyT} {n : KeyT} {t e : Int} {k : Nat} {O : List KeyT} (h : RotI l n t e k false O) (hk : k < l.length) (hc : ¬ cmpK n l[k] ≤ 0) : ∀ O', (t ≤ l[k].f3 ∧ l[k].f2 ≤ e → O' = O ++ [⟨l[k].f0, l[k].f1, l[k].f2, min l[k].f3 e⟩]) → (¬ (t ≤ l[k].f3 ∧ l[k].f2 ≤ e) → O' = O) → RotI l n t e (k + 1) false O' := by
  intro O' h1 h2
  rcases h with ⟨_, rfl, h3⟩ | ⟨h, _⟩
  · refine .inl ⟨rfl, ?_, fun x hx => ?_⟩
    · rw [take_snocK hk]
      by_cases q : t ≤ l[k].f3 ∧ l[k].f2 ≤ e
      · rw [h1 q, kpt_yes q]
      · rw [h2 q, kpt_no q]
    · rw [take_snocK hk] at hx
      rcases List.mem_append.1 hx with h | h
      · exact h3 x h
      · simp at h; subst h; omega
  · cases h
theorem RotI.step1 {l : List KeyT} {n : KeyT} {t e : Int} {k : Nat} {O : List KeyT} (h : RotI l n t e k true O) (hk : k < l.length) : ∀ O', (t ≤ l[k].f3 ∧ l[k].f2 ≤ e → O' = O ++ [⟨l[k].f0, l[k].f1, l[k].f2, min l[k].f3 e⟩]) → (¬ (t ≤ l[k].f3 ∧ l[k].f2 ≤ e) → O' = O) → RotI l n t e (k + 1) true O' := by
  intro O' h1 h2
  rcases h with ⟨h, _⟩ | ⟨_, A, B, e1, rfl, h3, b, B', rfl, h4⟩
  · cases h
  · refine .inr ⟨rfl, A, (b :: B') ++ [l[k]], by rw [take_snocK hk, e1]; simp, ?_, h3, b, B' ++ [l[k]], rfl, h4⟩
    by_cases q : t ≤ l[k].f3 ∧ l[k].f2 ≤ e
    · rw [h1 q, kpt_yes q]; simp
    · rw [h2 q, kpt_no q]
end Go.Proofs.Ytenbliiombjldaa
