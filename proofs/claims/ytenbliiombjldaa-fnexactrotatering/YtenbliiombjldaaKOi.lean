/- slices.SortFunc at keys. -/
import Derived.Test.YtenbliiombjldaaKOk
import Derived.Test.YtenbliiombjldaaGSrG
import Derived.Test.YtenbliiombjldaaSf
namespace Go.Proofs.Ytenbliiombjldaa
open Go.RowKit Go.Sort Go.Shelf
set_option maxRecDepth 20000

instance : Inhabited KeyT := ⟨⟨⟨#[]⟩, 0, 0, 0⟩⟩
theorem swoK : SWO (ltOf cmpK) where
  irrefl x := by unfold ltOf; simpa using cmpK_irr x
  trans x y z h1 h2 := by unfold ltOf at *; simp only [decide_eq_true_eq] at *; exact cmpK_tr _ _ _ h1 h2
  ntrans x y z h1 h2 := by
    unfold ltOf at *
    simp only [decide_eq_false_iff_not] at *
    intro h3
    rcases cmpK_tri x y with h | h | h
    · exact h1 h
    · unfold cmpK at h2 h3; rw [h] at h3; exact h2 h3
    · exact h2 (cmpK_tr _ _ _ h h3)
theorem cmpLaysK (blk off size : Nat) (w : World) : CmpLays Try.prog 20 #[] encKey 4 cmpK blk off size w := fun m os dk _ x y => by
  refine (rotOrder_gr x y _).mono fun e w' ⟨he, hb⟩ => ?_
  refine ⟨?_, hb⟩
  rw [he]
set_option maxHeartbeats 1000000 in
theorem sortKeys (l : List KeyT) (g cap base : Nat) (w : World) (hl : l.length ≤ 1000) (ho : w.ownsRow base 30 4 (.slice (some ⟨g, 0, none⟩) l.length cap) l.length (KeysV l)) :
    Calls Try.prog 19 #[.slice (some ⟨g, 0, none⟩) l.length cap, .func (.func 20) #[] #[]] w fun e w' => e = .returned (.tuple #[]) ∧
      ∃ l' : List KeyT, Hid (l'.Perm l ∧ WS l' ∧ w'.ownsRow base 30 4 (.slice (some ⟨g, 0, none⟩) l.length cap) l.length (KeysV l') ∧ Below base w w') := by
  have hk : ∀ x, (encKey x).length = 4 := fun _ => rfl
  rcases ho.2 with ⟨h', _⟩ | ⟨g', cap', cur, h', hb, hg, r1, r2, r3, r4⟩
  · simp at h'
  · simp only [Value.slice.injEq, Option.some.injEq, Addr.mk.injEq, and_true, true_and] at h'
    obtain ⟨rfl, rfl⟩ := h'
    have hgl : g < w.heap.size := (Array.getElem?_eq_some_iff.1 hg).1
    have qs := AnyQ.slices_SortFunc Try.sortF19 4 Try.isAgg30 Try.sizeOf30 encKey hk (fun x u hu => by simp [encKey] at hu; rcases hu with rfl | rfl | rfl | rfl <;> rfl) cmpK swoK 20 #[] g 0 cap l.toArray w
      (enters_of Try.func20 (by kernel_rfl) rfl) (cmpLaysK g 0 _ w) (holdsK_of hk (by omega) hg (by rw [r4]; rfl)) hgl (by simp; omega)
    have e1 : l.toArray.size = l.length := by simp
    rw [e1] at qs
    refine qs.mono fun e w' ⟨he, d', n, os, hp, hs, hw⟩ => ⟨he, d'.toList, hide ?_⟩
    have hp' := hp
    have hs' := hs
    rw [← e1] at hp' hs'
    obtain ⟨z1, z2, z3⟩ := perm_sorted hp' hs'
    have gr : w.grownBy w' (some g) := by rw [hw]; exact sortedK_grown _
    refine ⟨z2, z3.imp fun {a b} h => by unfold ltOf at h; simpa using h, ?_, (Below.refl base w).grown gr (by omega) (fun j hj => by cases hj; exact hb)⟩
    have := sortedK_own (n := n) (os := os) (base := base) hk (by omega) (ss := l) (ts := d'.toList) z1 hb hg r1 r2 r3
    rw [hw]; simpa [KeysV] using this
end Go.Proofs.Ytenbliiombjldaa
