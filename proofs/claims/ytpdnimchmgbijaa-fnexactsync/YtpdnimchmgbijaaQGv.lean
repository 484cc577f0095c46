/- impl.goodVector. -/
import Derived.Test.YtpdnimchmgbijaaQMs
import Derived.Test.YtpdnimchmgbijaaQChG
namespace Go.Proofs.Ytpdnimchmgbijaa
open Go.RowKit

def RisW (m : List (Int × Int)) (k : Nat) : Prop := ∀ i (h : i < m.length), 0 < i → i < k → m[i - 1].2 < m[i].2
theorem RisW.step {l : List (Int × Int)} {k : Nat} (h : RisW l k) (hk : k < l.length) (g : 0 < k → l[k - 1].2 < l[k].2) : RisW l (k + 1) := by
  intro i hi h0 h1
  rcases Nat.lt_or_ge i k with h2 | h2
  · exact h i hi h0 h2
  · obtain rfl : i = k := by omega
    exact g h0
def VcG (l : List (Int × Int)) : Prop := l.length ≤ 100 ∧ RisW l l.length
theorem cmpN_lt (a b : Int) : cmpN a b < 0 ↔ a < b := by
  unfold cmpN
  repeat (any_goals split)
  all_goals omega

end Go.Proofs.Ytpdnimchmgbijaa
