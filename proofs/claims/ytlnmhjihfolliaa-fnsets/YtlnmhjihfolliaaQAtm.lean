/- GoodAtom of both, at every atom; laws.szAtom (21), laws.toAtom (22). -/
import Derived.Test.YtlnmhjihfolliaaQAtS
namespace Go.Proofs.Ytlnmhjihfolliaa
open Go.RowKit

theorem iGoodAtom_any (k n : Int) (t ty : ByteArray) (w : World) (h9 : n ≤ 9223372036854775807) (ht : t.size ≤ maxLen) (hty : ty.size ≤ maxLen) :
    Calls Try.prog 31 #[.agg #[.int .i64 k, .int .i64 n, .string t, .string ty]] w fun e w' => e = .returned (.bool (goodAtom k n t ty)) ∧ Below w.heap.size w w' := by
  by_cases h3 : k = 3
  · subst h3; exact iGoodAtom_3 n t ty w ht
  by_cases h4 : k = 4
  · subst h4; exact iGoodAtom_4 n t ty w ht hty
  by_cases h : k = 1 ∨ k = 2 ∨ k = 5 ∨ k = 6 ∨ k = 7
  · exact iGoodAtom_plain k n h t ty w h9
  · exact iGoodAtom_else k n t ty w (by omega) (by omega) h3 h4 (by omega) (by omega) (by omega)

theorem sGoodAtom_any (k n : Int) (t ty : ByteArray) (w : World) (h9 : n ≤ 9223372036854775807) (ht : t.size ≤ maxLen) (hty : ty.size ≤ maxLen) :
    Calls Try.prog 20 #[.agg #[.int .i64 k, .int .i64 n, .string t, .string ty]] w fun e w' => e = .returned (.bool (goodAtom k n t ty)) ∧ Below w.heap.size w w' := by
  by_cases h3 : k = 3
  · subst h3; exact sGoodAtom_3 n t ty w ht
  by_cases h4 : k = 4
  · subst h4; exact sGoodAtom_4 n t ty w ht hty
  by_cases h6 : k = 6
  · subst h6; exact sGoodAtom_6 n t ty w h9
  by_cases h : k = 1 ∨ k = 2 ∨ k = 5 ∨ k = 7
  · exact sGoodAtom_plain k n h t ty w
  · exact sGoodAtom_else k n t ty w (by omega) (by omega) h3 h4 (by omega) h6 (by omega)

end Go.Proofs.Ytlnmhjihfolliaa
