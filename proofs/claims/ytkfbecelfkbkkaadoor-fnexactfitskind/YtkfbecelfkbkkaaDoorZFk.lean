/- FitsKind, both sides. -/
import Derived.Test.YtkfbecelfkbkkaaDoorZKi
import Derived.Test.YtkfbecelfkbkkaaDoorWVal
import Derived.Test.YtkfbecelfkbkkaaDoorWRead
import Derived.BigQuiet
import Derived.Deep.RegionWith
namespace Go.Proofs.YtkfbecelfkbkkaaDoor.V
set_option linter.unusedSimpArgs false
set_option linter.unusedVariables false
open Go.RowKit

def wordK (x : Int) : ByteArray := if x = 1 then ⟨#[98, 111, 111, 108]⟩ else if x = 2 then ⟨#[110, 117, 109]⟩ else if x = 3 then ⟨#[116, 101, 120, 116]⟩ else if x = 5 then ⟨#[100, 101, 99]⟩ else if x = 6 then ⟨#[97, 100, 100, 114]⟩ else ⟨#[116, 105, 109, 101]⟩
def akind (A : AtomT) : ByteArray := if A.x = 4 then (⟨#[114, 101, 102, 32]⟩ : ByteArray) ++ A.y else wordK A.x
/-- The table of words, as it is laid. -/
structure Words (w : World) : Prop where
  z : 0 < w.heap.size
  c0 : w.cell? ⟨0, 0, none⟩ = some (.string ⟨#[]⟩)
  c1 : w.cell? ⟨0, 1, none⟩ = some (.string ⟨#[98, 111, 111, 108]⟩)
  c2 : w.cell? ⟨0, 2, none⟩ = some (.string ⟨#[110, 117, 109]⟩)
  c3 : w.cell? ⟨0, 3, none⟩ = some (.string ⟨#[116, 101, 120, 116]⟩)
  c4 : w.cell? ⟨0, 4, none⟩ = some (.string ⟨#[114, 101, 102]⟩)
  c5 : w.cell? ⟨0, 5, none⟩ = some (.string ⟨#[100, 101, 99]⟩)
  c6 : w.cell? ⟨0, 6, none⟩ = some (.string ⟨#[97, 100, 100, 114]⟩)
  c7 : w.cell? ⟨0, 7, none⟩ = some (.string ⟨#[116, 105, 109, 101]⟩)
theorem Words.keep {w w1 : World} (h : Words w) (hb : Below w.heap.size w w1) : Words w1 := ⟨Nat.lt_of_lt_of_le h.z hb.size, cellB hb h.z h.c0, cellB hb h.z h.c1, cellB hb h.z h.c2, cellB hb h.z h.c3, cellB hb h.z h.c4, cellB hb h.z h.c5, cellB hb h.z h.c6, cellB hb h.z h.c7⟩
theorem good_kind {A : AtomT} (h : A.good = true) : A.x = 4 ∨ A.x = 1 ∨ A.x = 2 ∨ A.x = 3 ∨ A.x = 5 ∨ A.x = 6 ∨ A.x = 7 := by
  unfold AtomT.good goodAtom at h
  split at h
  · omega
  · split at h
    · omega
    · split at h
      · omega
      · cases h
theorem good_ref {A : AtomT} (h : A.good = true) (h4 : A.x = 4) : goodName A.y = true := by
  unfold AtomT.good goodAtom at h
  rw [h4] at h
  simp at h
  exact h.1.1.2
theorem name30 {s : ByteArray} (h : goodName s = true) : s.size ≤ 30 := by
  apply Classical.byContradiction
  intro hn
  rw [goodName_size (.inr (by omega))] at h
  cases h
theorem l6Kinds_any (w : World) : Calls Tryd.prog 33 #[] w fun e w' => e = .returned (.slice (some ⟨w.heap.size, 0, none⟩) 8 8) ∧ w' = w.alloc (.cells #[.string ⟨#[]⟩, .string ⟨#[98, 111, 111, 108]⟩, .string ⟨#[110, 117, 109]⟩, .string ⟨#[116, 101, 120, 116]⟩, .string ⟨#[114, 101, 102]⟩, .string ⟨#[100, 101, 99]⟩, .string ⟨#[97, 100, 100, 114]⟩, .string ⟨#[116, 105, 109, 101]⟩] 9) := by
  go_enter Tryd.func33, Tryd.ntmps33
  go_wp2_with fail
  go_ret
  exact ⟨rfl, rfl⟩
set_option maxHeartbeats 1000000 in
theorem kindOfAtom_any (A : AtomT) (w : World) (hg : A.good = true) (hT : Words w) :
    Calls Tryd.prog 26 #[.agg #[.int .i64 A.x, .int .i64 A.n, .string A.t, .string A.y]] w fun e w' => e = .returned (.string (akind A)) ∧ Below w.heap.size w w' := by
  have hx := good_kind hg
  have B := hide (bAl (Below.refl w.heap.size w) (.cells #[.int .i64 A.x, .int .i64 A.n, .string A.t, .string A.y] 30))
  have HT := hide (hT.keep (unhide B))
  clear hT
  have hy4 : A.x = 4 → A.y.size ≤ 30 := fun h => name30 (good_ref hg h)
  obtain ⟨x, n, t, y⟩ := A
  simp only at *
  clear hg
  rcases hx with rfl | rfl | rfl | rfl | rfl | rfl | rfl
  · have hk : Hid (akind ⟨4, n, t, y⟩ = (⟨#[114, 101, 102, 32]⟩ : ByteArray) ++ y) := hide (by simp [akind])
    generalize akind ⟨4, n, t, y⟩ = K at hk ⊢
    have hy := hy4 rfl
    clear hy4
    clear HT
    go_enter Tryd.func26, Tryd.ntmps26
    go_wp2_with fail
    go_ret
    exact ⟨congrArg (fun x => Ending.returned (.string x)) (unhide hk).symm, unhide B⟩
  · have hk : Hid (akind ⟨1, n, t, y⟩ = ⟨#[98, 111, 111, 108]⟩) := hide (by simp [akind, wordK])
    generalize akind ⟨1, n, t, y⟩ = K at hk ⊢
    clear hy4
    have c := (unhide HT).c1
    clear HT
    go_enter Tryd.func26, Tryd.ntmps26
    go_wp2_with fail
    go_ret
    exact ⟨congrArg (fun x => Ending.returned (.string x)) (unhide hk).symm, unhide B⟩
  · have hk : Hid (akind ⟨2, n, t, y⟩ = ⟨#[110, 117, 109]⟩) := hide (by simp [akind, wordK])
    generalize akind ⟨2, n, t, y⟩ = K at hk ⊢
    clear hy4
    have c := (unhide HT).c2
    clear HT
    go_enter Tryd.func26, Tryd.ntmps26
    go_wp2_with fail
    go_ret
    exact ⟨congrArg (fun x => Ending.returned (.string x)) (unhide hk).symm, unhide B⟩
  · have hk : Hid (akind ⟨3, n, t, y⟩ = ⟨#[116, 101, 120, 116]⟩) := hide (by simp [akind, wordK])
    generalize akind ⟨3, n, t, y⟩ = K at hk ⊢
    clear hy4
    have c := (unhide HT).c3
    clear HT
    go_enter Tryd.func26, Tryd.ntmps26
    go_wp2_with fail
    go_ret
    exact ⟨congrArg (fun x => Ending.returned (.string x)) (unhide hk).symm, unhide B⟩
  · have hk : Hid (akind ⟨5, n, t, y⟩ = ⟨#[100, 101, 99]⟩) := hide (by simp [akind, wordK])
    generalize akind ⟨5, n, t, y⟩ = K at hk ⊢
    clear hy4
    have c := (unhide HT).c5
    clear HT
    go_enter Tryd.func26, Tryd.ntmps26
    go_wp2_with fail
    go_ret
    exact ⟨congrArg (fun x => Ending.returned (.string x)) (unhide hk).symm, unhide B⟩
  · have hk : Hid (akind ⟨6, n, t, y⟩ = ⟨#[97, 100, 100, 114]⟩) := hide (by simp [akind, wordK])
    generalize akind ⟨6, n, t, y⟩ = K at hk ⊢
    clear hy4
    have c := (unhide HT).c6
    clear HT
    go_enter Tryd.func26, Tryd.ntmps26
    go_wp2_with fail
    go_ret
    exact ⟨congrArg (fun x => Ending.returned (.string x)) (unhide hk).symm, unhide B⟩
  · have hk : Hid (akind ⟨7, n, t, y⟩ = ⟨#[116, 105, 109, 101]⟩) := hide (by simp [akind, wordK])
    generalize akind ⟨7, n, t, y⟩ = K at hk ⊢
    clear hy4
    have c := (unhide HT).c7
    clear HT
    go_enter Tryd.func26, Tryd.ntmps26
    go_wp2_with fail
    go_ret
    exact ⟨congrArg (fun x => Ending.returned (.string x)) (unhide hk).symm, unhide B⟩
set_option maxHeartbeats 1000000 in
theorem l11AtomKind_any (A : AtomT) (w : World) (hg : A.good = true) :
    Calls Tryd.prog 14 #[.agg #[.int .i64 A.x, .int .i64 A.n, .string A.t, .string A.y]] w fun e w' => e = .returned (.string (akind A)) ∧ Below w.heap.size w w' := by
  have hx := good_kind hg
  have B := hide (bAl (Below.refl w.heap.size w) (.cells #[.int .i64 A.x, .int .i64 A.n, .string A.t, .string A.y] 30))
  have hy4 : A.x = 4 → A.y.size ≤ 30 := fun h => name30 (good_ref hg h)
  obtain ⟨x, n, t, y⟩ := A
  simp only at *
  clear hg
  rcases hx with rfl | rfl | rfl | rfl | rfl | rfl | rfl
  · have hk : Hid (akind ⟨4, n, t, y⟩ = (⟨#[114, 101, 102, 32]⟩ : ByteArray) ++ y) := hide (by simp [akind])
    generalize akind ⟨4, n, t, y⟩ = K at hk ⊢
    have hy := hy4 rfl
    clear hy4
    go_enter Tryd.func14, Tryd.ntmps14
    go_wp2_with fail
    go_ret
    exact ⟨congrArg (fun x => Ending.returned (.string x)) (unhide hk).symm, unhide B⟩
  · have hk : Hid (akind ⟨1, n, t, y⟩ = ⟨#[98, 111, 111, 108]⟩) := hide (by simp [akind, wordK])
    generalize akind ⟨1, n, t, y⟩ = K at hk ⊢
    clear hy4
    go_enter Tryd.func14, Tryd.ntmps14
    go_wp2_with fail
    go_region_with (first | (go_at_call 33; refine (l6Kinds_any _).mono ?_; rintro e w' ⟨rfl, rfl⟩))
    all_goals go_wp2_with fail
    all_goals go_ret
    all_goals exact ⟨congrArg (fun x => Ending.returned (.string x)) (unhide hk).symm, by first | exact bAl (below_drewN (unhide B) _) _ | exact bAl (unhide B) _⟩
  · have hk : Hid (akind ⟨2, n, t, y⟩ = ⟨#[110, 117, 109]⟩) := hide (by simp [akind, wordK])
    generalize akind ⟨2, n, t, y⟩ = K at hk ⊢
    clear hy4
    go_enter Tryd.func14, Tryd.ntmps14
    go_wp2_with fail
    go_region_with (first | (go_at_call 33; refine (l6Kinds_any _).mono ?_; rintro e w' ⟨rfl, rfl⟩))
    all_goals go_wp2_with fail
    all_goals go_ret
    all_goals exact ⟨congrArg (fun x => Ending.returned (.string x)) (unhide hk).symm, by first | exact bAl (below_drewN (unhide B) _) _ | exact bAl (unhide B) _⟩
  · have hk : Hid (akind ⟨3, n, t, y⟩ = ⟨#[116, 101, 120, 116]⟩) := hide (by simp [akind, wordK])
    generalize akind ⟨3, n, t, y⟩ = K at hk ⊢
    clear hy4
    go_enter Tryd.func14, Tryd.ntmps14
    go_wp2_with fail
    go_region_with (first | (go_at_call 33; refine (l6Kinds_any _).mono ?_; rintro e w' ⟨rfl, rfl⟩))
    all_goals go_wp2_with fail
    all_goals go_ret
    all_goals exact ⟨congrArg (fun x => Ending.returned (.string x)) (unhide hk).symm, by first | exact bAl (below_drewN (unhide B) _) _ | exact bAl (unhide B) _⟩
  · have hk : Hid (akind ⟨5, n, t, y⟩ = ⟨#[100, 101, 99]⟩) := hide (by simp [akind, wordK])
    generalize akind ⟨5, n, t, y⟩ = K at hk ⊢
    clear hy4
    go_enter Tryd.func14, Tryd.ntmps14
    go_wp2_with fail
    go_region_with (first | (go_at_call 33; refine (l6Kinds_any _).mono ?_; rintro e w' ⟨rfl, rfl⟩))
    all_goals go_wp2_with fail
    all_goals go_ret
    all_goals exact ⟨congrArg (fun x => Ending.returned (.string x)) (unhide hk).symm, by first | exact bAl (below_drewN (unhide B) _) _ | exact bAl (unhide B) _⟩
  · have hk : Hid (akind ⟨6, n, t, y⟩ = ⟨#[97, 100, 100, 114]⟩) := hide (by simp [akind, wordK])
    generalize akind ⟨6, n, t, y⟩ = K at hk ⊢
    clear hy4
    go_enter Tryd.func14, Tryd.ntmps14
    go_wp2_with fail
    go_region_with (first | (go_at_call 33; refine (l6Kinds_any _).mono ?_; rintro e w' ⟨rfl, rfl⟩))
    all_goals go_wp2_with fail
    all_goals go_ret
    all_goals exact ⟨congrArg (fun x => Ending.returned (.string x)) (unhide hk).symm, by first | exact bAl (below_drewN (unhide B) _) _ | exact bAl (unhide B) _⟩
  · have hk : Hid (akind ⟨7, n, t, y⟩ = ⟨#[116, 105, 109, 101]⟩) := hide (by simp [akind, wordK])
    generalize akind ⟨7, n, t, y⟩ = K at hk ⊢
    clear hy4
    go_enter Tryd.func14, Tryd.ntmps14
    go_wp2_with fail
    go_region_with (first | (go_at_call 33; refine (l6Kinds_any _).mono ?_; rintro e w' ⟨rfl, rfl⟩))
    all_goals go_wp2_with fail
    all_goals go_ret
    all_goals exact ⟨congrArg (fun x => Ending.returned (.string x)) (unhide hk).symm, by first | exact bAl (below_drewN (unhide B) _) _ | exact bAl (unhide B) _⟩
end Go.Proofs.YtkfbecelfkbkkaaDoor.V
