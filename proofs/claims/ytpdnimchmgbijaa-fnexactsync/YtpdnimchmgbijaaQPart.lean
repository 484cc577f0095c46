/- laws.szPart, szPartS, toPart, toPartS, eqPart, eqPartS. -/
import Derived.Test.YtpdnimchmgbijaaQRow
namespace Go.Proofs.Ytpdnimchmgbijaa
open Go.RowKit

theorem szPart_any (a t : ByteArray) (l : Int) (w : World) (h0 : 0 ≤ l) (h1 : l ≤ 1048576) (ha : a.size ≤ maxLen) (ht : t.size ≤ maxLen) :
    Calls Try.prog 24 #[.agg #[.string a, .string t], .int .i64 l] w fun e w' => (∃ m : Int, -1 ≤ m ∧ m ≤ l ∧ (0 ≤ m → (a.size : Int) ≤ l ∧ (t.size : Int) ≤ l) ∧ e = .returned (.int .i64 m)) ∧ Below w.heap.size w w' := by
  unfold maxLen at ha ht
  go_enter Try.func24, Try.ntmps24
  go_wp2
  all_goals go_ret
  all_goals exact ⟨⟨_, by omega, by omega, by omega, rfl⟩, bAl (Below.refl _ _) _⟩

theorem toPart_any (a t : ByteArray) (w : World) :
    Calls Try.prog 28 #[.agg #[.string a, .string t]] w fun e w' => e = .returned (.agg #[.string a, .string t]) ∧ Below w.heap.size w w' := by
  go_enter Try.func28, Try.ntmps28
  go_wp2
  exact bodyPost_ret (v := .agg #[.string a, .string t]) (by simp [results, Try.results28, go_sem]) rfl ⟨rfl, bAl (bAl (bAl (Below.refl _ _) _) _) _⟩

theorem eqPart_same (a t : ByteArray) (w : World) :
    Calls Try.prog 38 #[.agg #[.string a, .string t], .agg #[.string a, .string t]] w fun e w' => e = .returned (.bool true) ∧ Below w.heap.size w w' := by
  go_enter Try.func38, Try.ntmps38
  go_wp2
  go_ret
  exact ⟨rfl, bAl (bAl (Below.refl _ _) _) _⟩

end Go.Proofs.Ytpdnimchmgbijaa
