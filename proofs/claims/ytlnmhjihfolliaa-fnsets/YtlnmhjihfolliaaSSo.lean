/- slices.SortFunc at good atoms; slices.Clone at atoms. -/
import Derived.Test.YtlnmhjihfolliaaSCm
import Derived.Test.YtlnmhjihfolliaaECm
import Derived.Test.YtlnmhjihfolliaaGSrG
import Derived.Test.YtlnmhjihfolliaaSf
import Derived.Test.YtlnmhjihfolliaaWValI
namespace Go.Proofs.Ytlnmhjihfolliaa.V
open Go.RowKit Go.Sort Go.Shelf
set_option maxRecDepth 20000

abbrev GAt : Type := { a : AtomT // a.good = true ∧ a.Ok }
theorem bool_good : (⟨1, 0, ⟨#[]⟩, ⟨#[]⟩⟩ : AtomT).good = true := by
  show goodAtom 1 0 ⟨#[]⟩ ⟨#[]⟩ = true
  rw [goodAtom_plain (.inl rfl), ByteArray.toList_eq]
  rfl
instance : Inhabited GAt := ⟨⟨⟨1, 0, ⟨#[]⟩, ⟨#[]⟩⟩, bool_good, ⟨by decide, by decide, by unfold maxLen; decide, by unfold maxLen; decide⟩⟩⟩
def celG (a : GAt) : List Value := cellsA a.1
def cfG (a b : GAt) : Int := a.1.cmp b.1
theorem swoG : SWO (ltOf cfG) where
  irrefl x := by unfold ltOf cfG; simpa using ord_A.irr x.1
  trans x y z h1 h2 := by unfold ltOf cfG at *; simp only [decide_eq_true_eq] at *; exact ord_A.tr x.1 y.1 z.1 h1 h2
  ntrans x y z h1 h2 := by
    unfold ltOf cfG at *
    simp only [decide_eq_false_iff_not] at *
    intro h3
    rcases ord_A.tri x.1 y.1 with h | h | h
    · exact h1 h
    · rw [h] at h3; exact h2 h3
    · exact h2 (ord_A.tr _ _ _ h h3)
theorem cmpLaysG (blk off size : Nat) (w : World) : CmpLays Try.prog 16 #[] celG 4 cfG blk off size w := fun m os dk _ x y => by
  obtain ⟨a, ga, oa⟩ := x
  obtain ⟨b, gb, ob⟩ := y
  refine (E.iCompare_any a.x a.n a.t a.y b.x b.n b.t b.y _ oa.n9 oa.t9 oa.y9 ob.n9 ob.t9 ob.y9).mono fun e w' ⟨he, hb⟩ => ?_
  refine ⟨?_, hb.gr⟩
  rw [he]
  have : cmpG a.x a.n a.t a.y b.x b.n b.t b.y = a.cmp b := by
    unfold cmpG
    rw [if_pos ⟨ga, gb⟩]; rfl
  rw [this]; rfl
/-- Good atoms, as a list of them. -/
def gl (l : List AtomT) (h : ∀ a ∈ l, a.good = true ∧ a.Ok) : List GAt := l.attach.map fun x => ⟨x.1, h x.1 x.2⟩
theorem gl_val (l : List AtomT) (h : ∀ a ∈ l, a.good = true ∧ a.Ok) : (gl l h).map Subtype.val = l := by
  unfold gl
  rw [List.map_map]
  show l.attach.map (fun x => x.1) = l
  exact List.attach_map_subtype_val l
theorem gl_len (l : List AtomT) (h : ∀ a ∈ l, a.good = true ∧ a.Ok) : (gl l h).length = l.length := by unfold gl; simp
theorem flat_val (l : List GAt) : l.flatMap celG = atomsV (l.map Subtype.val) := by
  unfold atomsV celG
  rw [List.flatMap_map]
set_option maxHeartbeats 1000000 in
theorem sortAtoms (l : List AtomT) (h : ∀ a ∈ l, a.good = true ∧ a.Ok) (g cap base : Nat) (w : World) (hl : l.length ≤ 1000) (ho : w.ownsRow base 26 4 (.slice (some ⟨g, 0, none⟩) l.length cap) l.length (atomsV l)) :
    Calls Try.prog 15 #[.slice (some ⟨g, 0, none⟩) l.length cap, .func (.func 16) #[] #[]] w fun e w' => e = .returned (.tuple #[]) ∧
      ∃ l' : List AtomT, Hid (l'.Perm l ∧ Srt l' ∧ w'.ownsRow base 26 4 (.slice (some ⟨g, 0, none⟩) l.length cap) l.length (atomsV l') ∧ Below base w w') := by
  have hk : ∀ x, (celG x).length = 4 := fun _ => rfl
  rcases ho.2 with ⟨h', _⟩ | ⟨g', cap', cur, h', hb, hg, r1, r2, r3, r4⟩
  · simp at h'
  · simp only [Value.slice.injEq, Option.some.injEq, Addr.mk.injEq, and_true, true_and] at h'
    obtain ⟨rfl, rfl⟩ := h'
    have hgl : g < w.heap.size := (Array.getElem?_eq_some_iff.1 hg).1
    obtain ⟨ss, hss⟩ : ∃ ss, gl l h = ss := ⟨_, rfl⟩
    have hval : ss.map Subtype.val = l := by rw [← hss]; exact gl_val l h
    have hlen : ss.length = l.length := by rw [← hss]; exact gl_len l h
    have qs := AnyQ.slices_SortFunc Try.sortF15 4 Try.isAgg26 Try.sizeOf26 celG hk (fun x u hu => by simp [celG, cellsA] at hu; rcases hu with rfl | rfl | rfl | rfl <;> rfl) cfG swoG 16 #[] g 0 cap ss.toArray w
      (enters_of Try.func16 (by kernel_rfl) rfl) (cmpLaysG g 0 _ w) (holdsK_of hk (by omega) hg (by rw [hlen, r4, flat_val, hval])) hgl (by simp; omega)
    have e1 : ss.toArray.size = l.length := by simpa using hlen
    rw [e1] at qs
    refine qs.mono fun e w' ⟨he, d', n, os, hp, hs, hw⟩ => ⟨he, d'.toList.map Subtype.val, hide ?_⟩
    have hp' := hp
    have hs' := hs
    rw [← e1] at hp' hs'
    obtain ⟨z1, z2, z3⟩ := perm_sorted hp' hs'
    have gr : w.grownBy w' (some g) := by rw [hw]; exact sortedK_grown _
    refine ⟨by rw [← hval]; exact z2.map _, ?_, ?_, (Below.refl base w).grown gr (by omega) (fun j hj => by cases hj; exact hb)⟩
    · intro i j hij hj
      rw [List.length_map] at hj
      have := (List.pairwise_iff_getElem.1 z3) i j (by omega) hj hij
      unfold ltOf cfG at this
      rw [List.getElem_map, List.getElem_map]
      simpa using this
    · have := sortedK_own (n := n) (os := os) (base := base) hk (by omega) (ss := ss) (ts := d'.toList) z1 hb hg (by rw [hlen]; exact r1) r2 r3
      rw [hlen, flat_val] at this
      rw [hw]; simpa using this
end Go.Proofs.Ytlnmhjihfolliaa.V
