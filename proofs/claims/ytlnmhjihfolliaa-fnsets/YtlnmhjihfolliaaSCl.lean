/- slices.Clone at atoms. -/
import Derived.Test.YtlnmhjihfolliaaSCw
import Derived.Test.YtlnmhjihfolliaaSSo
import Derived.Maps.AppendAt
namespace Go.Proofs.Ytlnmhjihfolliaa.V
open Go.RowKit
set_option maxRecDepth 20000
theorem info_atom : (Try.prog.info? 26).map (fun i => (i.zero, i.size, i.bytes)) = some (some (.agg #[.int .i64 0, .int .i64 0, .string ByteArray.empty, .string ByteArray.empty]), 4, 48) := by kernel_rfl
theorem atoms_cells {w : World} {b off : Nat} {l : List AtomT} (h : AtomRow w b off l) : ∀ j u, (atomsV l)[j]? = some u → w.cell? ((⟨b, off, none⟩ : Addr).add j) = some u := by
  intro j u hu
  have hlen : (atomsV l).length = l.length * 4 := atomsV_len l
  have hj : j < l.length * 4 := by rw [← hlen]; exact (List.getElem?_eq_some_iff.1 hu).1
  have hd : j = j / 4 * 4 + j % 4 := by omega
  have hi : j / 4 < l.length := by omega
  have hm : j % 4 < 4 := Nat.mod_lt _ (by omega)
  have g1 := atomsV_get l (j / 4) (j % 4) hi hm
  rw [← hd] at g1
  rw [g1] at hu
  have c := h.c (j / 4) hi
  have e : (⟨b, off, none⟩ : Addr).add j = ⟨b, off + j, none⟩ := by simp [Addr.add]
  rw [e]
  have h4 : j % 4 = 0 ∨ j % 4 = 1 ∨ j % 4 = 2 ∨ j % 4 = 3 := by omega
  rcases h4 with k | k | k | k
  · rw [k] at hu; cases hu
    have := c.c0
    rwa [show off + j / 4 * 4 = off + j by omega] at this
  · rw [k] at hu; cases hu
    have := c.c1
    rwa [show off + j / 4 * 4 + 1 = off + j by omega] at this
  · rw [k] at hu; cases hu
    have := c.c2
    rwa [show off + j / 4 * 4 + 2 = off + j by omega] at this
  · rw [k] at hu; cases hu
    have := c.c3
    rwa [show off + j / 4 * 4 + 3 = off + j by omega] at this
theorem one_atoms (l : List AtomT) : ∀ u ∈ atomsV l, u.oneCell' = true := by
  intro u hu
  unfold atomsV at hu
  obtain ⟨a, _, ha⟩ := List.mem_flatMap.1 hu
  simp [cellsA] at ha
  rcases ha with rfl | rfl | rfl | rfl <;> rfl
theorem info_parts {P : Program} {t : TypeId} {z : Value} {n b : Nat} (h : (P.info? t).map (fun i => (i.zero, i.size, i.bytes)) = some (some z, n, b)) : ∃ i, P.info? t = some i ∧ i.zero = some z ∧ i.size = n ∧ i.bytes = b := by
  obtain ⟨i, hi, he⟩ := Option.map_eq_some_iff.1 h
  simp only [Prod.mk.injEq] at he
  exact ⟨i, hi, he.1, he.2.1, he.2.2⟩
set_option maxHeartbeats 1000000 in
theorem clone_any (a : Option Addr) (len cap : Nat) (l : List AtomT) (w : World) (hl : len ≤ 1000) (hs : SlA w a len l) :
    Calls Try.prog 14 #[.slice a len cap] w fun e w' => (∃ v, e = .returned v ∧ Hid (w'.ownsRow w.heap.size 26 4 v l.length (atomsV l))) ∧ Below w.heap.size w w' := by
  obtain ⟨i0, hi, hz0, hz1, hz2⟩ := info_parts info_atom
  have e1 := hs.1
  cases a with
  | none =>
    have hnil : l = [] := by
      rcases hs.2 with e | ⟨b, off, e, _⟩
      · exact e
      · cases e
    subst hnil
    have fin := hide (show w.ownsRow w.heap.size 26 4 (.slice none 0 0) ([] : List AtomT).length (atomsV []) from World.ownsRow_nil _ _ _ _)
    have heq := fun w => Lib.run_eql_slice_nil (P := Try.prog) w 23 26 none len cap 0 0 Try.underlying23
    clear hs e1
    go_enter Try.func14, Try.ntmps14
    go_wp2_with fail
    go_ret
    exact ⟨⟨_, rfl, fin⟩, Below.refl _ _⟩
  | some A =>
    have hnews : ∀ j u, (atomsV l)[j]? = some u → w.cell? (A.add j) = some u := by
      rcases hs.2 with e | ⟨b, off, e, r⟩
      · subst e; intro j u h; simp [atomsV] at h
      · cases e; exact atoms_cells r
    have HN := hide (show ∀ j u, (atomsV l)[j]? = some u → (w.alloc (.cells #[] 26)).cell? (A.add j) = some u from fun j u h => Lib.cell?_alloc_some _ (hnews j u h))
    have HL := hide (show (atomsV l).length = len * 4 by rw [atomsV_len, e1])
    have O1 := hide (show (w.alloc (.cells #[] 26)).ownsRow w.heap.size 26 4 (.slice (some ⟨w.heap.size, 0, none⟩) 0 0) 0 [] from World.ownsRow_lit w #[] 0 (Nat.le_refl _) (by unfold maxLen; omega) rfl)
    have B1 := hide (bAl (Below.refl w.heap.size w) (.cells #[] 26))
    have OA := hide (one_atoms l)
    clear hnews hs
    subst e1
    have heq := fun w => Lib.run_eql_slice_nil (P := Try.prog) w 23 26 (some A) l.length cap 0 0 Try.underlying23
    go_enter Try.func14, Try.ntmps14
    go_wp2_with (at_builtin; refine wpList_append_own_at _ rfl _ _ 23 rfl w.heap.size 26 i0 _ 4 48 Try.underlying23 hi hz0 hz1 hz2 rfl (by decide) _ _ _ rfl (unhide O1) A l.length cap (atomsV l) rfl (unhide HL) (unhide HN) (unhide OA) (by unfold maxLen; omega) (by omega) (by simp) ?_; intro v3 w3 hown3 hgrow3 _ _; have fin := hide (show w3.ownsRow w.heap.size 26 4 v3 l.length (atomsV l) by rw [Nat.zero_add, List.nil_append] at hown3; exact hown3); have B3 := hide ((unhide B1).grown hgrow3 (by simp) (fun j hj => by cases hj; exact Nat.le_refl _)); clear hown3 hgrow3)
    go_ret
    exact ⟨⟨_, rfl, fin⟩, unhide B3⟩
end Go.Proofs.Ytlnmhjihfolliaa.V
