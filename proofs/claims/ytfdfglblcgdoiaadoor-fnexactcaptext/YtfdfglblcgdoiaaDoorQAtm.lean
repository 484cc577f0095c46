/- GoodAtom of both, at every atom; laws.szAtom (21), laws.toAtom (22). -/
import Derived.Test.YtfdfglblcgdoiaaDoorQAtS
namespace Go.Proofs.YtfdfglblcgdoiaaDoor
open Go.RowKit

theorem iGoodAtom_any (k n : Int) (t ty : ByteArray) (w : World) (h9 : n ≤ 9223372036854775807) (ht : t.size ≤ maxLen) (hty : ty.size ≤ maxLen) :
    Calls Tryd.prog 56 #[.agg #[.int .i64 k, .int .i64 n, .string t, .string ty]] w fun e w' => e = .returned (.bool (goodAtom k n t ty)) ∧ Below w.heap.size w w' := by
  by_cases h3 : k = 3
  · subst h3; exact iGoodAtom_3 n t ty w ht
  by_cases h4 : k = 4
  · subst h4; exact iGoodAtom_4 n t ty w ht hty
  by_cases h : k = 1 ∨ k = 2 ∨ k = 5 ∨ k = 6 ∨ k = 7
  · exact iGoodAtom_plain k n h t ty w h9
  · exact iGoodAtom_else k n t ty w (by omega) (by omega) h3 h4 (by omega) (by omega) (by omega)

theorem sGoodAtom_any (k n : Int) (t ty : ByteArray) (w : World) (h9 : n ≤ 9223372036854775807) (ht : t.size ≤ maxLen) (hty : ty.size ≤ maxLen) :
    Calls Tryd.prog 43 #[.agg #[.int .i64 k, .int .i64 n, .string t, .string ty]] w fun e w' => e = .returned (.bool (goodAtom k n t ty)) ∧ Below w.heap.size w w' := by
  by_cases h3 : k = 3
  · subst h3; exact sGoodAtom_3 n t ty w ht
  by_cases h4 : k = 4
  · subst h4; exact sGoodAtom_4 n t ty w ht hty
  by_cases h6 : k = 6
  · subst h6; exact sGoodAtom_6 n t ty w h9
  by_cases h : k = 1 ∨ k = 2 ∨ k = 5 ∨ k = 7
  · exact sGoodAtom_plain k n h t ty w
  · exact sGoodAtom_else k n t ty w (by omega) (by omega) h3 h4 (by omega) h6 (by omega)

theorem szAtom_any (k n l : Int) (t ty : ByteArray) (w : World) (h0 : 0 ≤ l) (h1 : l ≤ 1048576) (ht : t.size ≤ maxLen) (hty : ty.size ≤ maxLen) :
    Calls Tryd.prog 41 #[.agg #[.int .i64 k, .int .i64 n, .string t, .string ty], .int .i64 l] w fun e w' => (∃ m : Int, -1 ≤ m ∧ m ≤ l ∧ e = .returned (.int .i64 m)) ∧ Below w.heap.size w w' := by
  unfold maxLen at ht hty
  go_enter Tryd.func41, Tryd.ntmps41
  go_wp2
  all_goals go_ret
  all_goals exact ⟨⟨_, by omega, by omega, rfl⟩, bAl (Below.refl _ _) _⟩

theorem toAtom_any (k n : Int) (t ty : ByteArray) (w : World) :
    Calls Tryd.prog 50 #[.agg #[.int .i64 k, .int .i64 n, .string t, .string ty]] w fun e w' => e = .returned (.agg #[.int .i64 k, .int .i64 n, .string t, .string ty]) ∧ Below w.heap.size w w' := by
  go_enter Tryd.func50, Tryd.ntmps50
  go_wp2
  exact bodyPost_ret (v := .agg #[.int .i64 k, .int .i64 n, .string t, .string ty]) (by simp [results, Tryd.results50, go_sem]) rfl ⟨rfl, bAl (bAl (bAl (Below.refl _ _) _) _) _⟩
end Go.Proofs.YtfdfglblcgdoiaaDoor
