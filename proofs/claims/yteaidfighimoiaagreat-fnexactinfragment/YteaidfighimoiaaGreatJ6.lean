/- QAtm, WSli, one behind the other. -/
import Derived.Test.YteaidfighimoiaaGreatJ5
import Derived.Test.YteaidfighimoiaaGreatJ2
/- GoodAtom of both, at every atom; laws.szAtom (21), laws.toAtom (22). -/
namespace Go.Proofs.YteaidfighimoiaaGreat
open Go.RowKit

theorem iGoodAtom_any (k n : Int) (t ty : ByteArray) (w : World) (h9 : n ≤ 9223372036854775807) (ht : t.size ≤ maxLen) (hty : ty.size ≤ maxLen) :
    Calls Tryz.prog 65 #[.agg #[.int .i64 k, .int .i64 n, .string t, .string ty]] w fun e w' => e = .returned (.bool (goodAtom k n t ty)) ∧ Below w.heap.size w w' := by
  by_cases h3 : k = 3
  · subst h3; exact iGoodAtom_3 n t ty w ht
  by_cases h4 : k = 4
  · subst h4; exact iGoodAtom_4 n t ty w ht hty
  by_cases h : k = 1 ∨ k = 2 ∨ k = 5 ∨ k = 6 ∨ k = 7
  · exact iGoodAtom_plain k n h t ty w h9
  · exact iGoodAtom_else k n t ty w (by omega) (by omega) h3 h4 (by omega) (by omega) (by omega)

theorem sGoodAtom_any (k n : Int) (t ty : ByteArray) (w : World) (h9 : n ≤ 9223372036854775807) (ht : t.size ≤ maxLen) (hty : ty.size ≤ maxLen) :
    Calls Tryz.prog 46 #[.agg #[.int .i64 k, .int .i64 n, .string t, .string ty]] w fun e w' => e = .returned (.bool (goodAtom k n t ty)) ∧ Below w.heap.size w w' := by
  by_cases h3 : k = 3
  · subst h3; exact sGoodAtom_3 n t ty w ht
  by_cases h4 : k = 4
  · subst h4; exact sGoodAtom_4 n t ty w ht hty
  by_cases h6 : k = 6
  · subst h6; exact sGoodAtom_6 n t ty w h9
  by_cases h : k = 1 ∨ k = 2 ∨ k = 5 ∨ k = 7
  · exact sGoodAtom_plain k n h t ty w
  · exact sGoodAtom_else k n t ty w (by omega) (by omega) h3 h4 (by omega) h6 (by omega)

theorem szAtom_any (k n l : Int) (t ty : ByteArray) (w : World) (h0 : 0 ≤ l) (h1 : l ≤ 1048576) (ht : t.size ≤ maxLen) (hty : ty.size ≤ maxLen) :
    Calls Tryz.prog 23 #[.agg #[.int .i64 k, .int .i64 n, .string t, .string ty], .int .i64 l] w fun e w' => (∃ m : Int, -1 ≤ m ∧ m ≤ l ∧ e = .returned (.int .i64 m)) ∧ Below w.heap.size w w' := by
  unfold maxLen at ht hty
  go_enter Tryz.func23, Tryz.ntmps23
  go_wp2
  all_goals go_ret
  all_goals exact ⟨⟨_, by omega, by omega, rfl⟩, bAl (Below.refl _ _) _⟩

theorem toAtom_any (k n : Int) (t ty : ByteArray) (w : World) :
    Calls Tryz.prog 32 #[.agg #[.int .i64 k, .int .i64 n, .string t, .string ty]] w fun e w' => e = .returned (.agg #[.int .i64 k, .int .i64 n, .string t, .string ty]) ∧ Below w.heap.size w w' := by
  go_enter Tryz.func32, Tryz.ntmps32
  go_wp2
  exact bodyPost_ret (v := .agg #[.int .i64 k, .int .i64 n, .string t, .string ty]) (by simp [results, Tryz.results32, go_sem]) rfl ⟨rfl, bAl (bAl (bAl (Below.refl _ _) _) _) _⟩
end Go.Proofs.YteaidfighimoiaaGreat
/- WSli, ported from seat 1a. -/
namespace Go.Proofs.YteaidfighimoiaaGreat.V
open Go.RowKit

/-- 'make([]impl.Atom, len)'. -/
theorem make_atoms (len : Nat) (w : World) (h : len ≤ 1048576) : ∃ w1 C, (Instr.makeSlice 117 (.int .i64 (len : Int)) (.int .i64 (len : Int))).run Tryz.prog w = .ok (.slice (some ⟨w.heap.size, 0, none⟩) len len) w1 ∧
    Below w.heap.size w w1 ∧ RowIs w1 w.heap.size C 31 ∧ C.size = len * 4 := by
  have hi : (Tryz.prog.info? 31).map (fun i => (i.zero, i.size, i.bytes)) = some (some (.agg #[.int .i64 0, .int .i64 0, .string ByteArray.empty, .string ByteArray.empty]), 4, 48) := by kernel_rfl
  obtain ⟨i, h1, h2⟩ := Option.map_eq_some_iff.1 hi
  simp only [Prod.mk.injEq] at h2
  obtain ⟨hz, hsz, hby⟩ := h2
  have hr := run_make (P := Tryz.prog) w 117 31 i _ Tryz.underlying117 h1 hz .i64 .i64 (len : Int) (len : Int) (by omega) (by omega) (by rw [hby]; omega) (by omega)
  rw [Int.toNat_natCast, hsz] at hr
  exact ⟨_, _, hr, bAl (Below.refl _ _) _, RowIs.new _ _ _, size_madeCells _ _⟩

theorem make_strings (len : Nat) (w : World) (h : len ≤ 1048576) : ∃ w1 C, (Instr.makeSlice 103 (.int .i64 (len : Int)) (.int .i64 (len : Int))).run Tryz.prog w = .ok (.slice (some ⟨w.heap.size, 0, none⟩) len len) w1 ∧
    Below w.heap.size w w1 ∧ RowIs w1 w.heap.size C 9 ∧ C.size = len := by
  have hi : (Tryz.prog.info? 9).map (fun i => (i.zero, i.size, i.bytes)) = some (some (.string ByteArray.empty), 1, 16) := by kernel_rfl
  obtain ⟨i, h1, h2⟩ := Option.map_eq_some_iff.1 hi
  simp only [Prod.mk.injEq] at h2
  obtain ⟨hz, hsz, hby⟩ := h2
  have hr := run_make (P := Tryz.prog) w 103 9 i _ Tryz.underlying103 h1 hz .i64 .i64 (len : Int) (len : Int) (by omega) (by omega) (by rw [hby]; omega) (by omega)
  rw [Int.toNat_natCast, hsz, Nat.mul_one] at hr
  exact ⟨_, _, hr, bAl (Below.refl _ _) _, RowIs.new _ _ _, size_madeCells _ _⟩

end Go.Proofs.YteaidfighimoiaaGreat.V
