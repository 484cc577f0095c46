/- The order of stamps: spec.l4Cmp, impl.compareStamps, impl.GoodLog's order. -/
import Derived.Test.YtpdnimchmgbijaaQChL
import Derived.Deep.RegionHeld3
namespace Go.Proofs.Ytpdnimchmgbijaa
open Go.RowKit

def cmpN (a b : Int) : Int := if a < b then -1 else if b < a then 1 else 0
def orI (a b : Int) : Int := if a = 0 then b else a
theorem orI_zero (b : Int) : orI 0 b = b := rfl
theorem orI_not {a : Int} (h : ¬ a = 0) (b : Int) : orI a b = a := by unfold orI; rw [if_neg h]
theorem bne_zero {c : Int} (h : ¬ c = 0) : (c != 0) = true := by simpa using h
theorem ret_int {k : IntKind} {a b : Int} (h : a = b) : Ending.returned (.int k a) = .returned (.int k b) := by rw [h]
/-- Stamps by Time, then by Who. -/
def cmpS (t o t' o' : Int) : Int := orI (cmpN t t') (cmpN o o')

theorem cmpNum_any (a b : Int) (w : World) : Calls Try.prog 42 #[.int .i64 a, .int .i64 b] w fun e w' => e = .returned (.int .i64 (cmpN a b)) ∧ w = w' := by
  unfold cmpN
  by_cases h : a < b
  · rw [if_pos h]
    go_enter Try.func42, Try.ntmps42
    go_wp2
    go_ret
    exact ⟨rfl, rfl⟩
  · rw [if_neg h]
    by_cases h2 : b < a
    · rw [if_pos h2]
      go_enter Try.func42, Try.ntmps42
      go_wp2
      go_ret
      exact ⟨rfl, rfl⟩
    · rw [if_neg h2]
      go_enter Try.func42, Try.ntmps42
      go_wp2
      go_ret
      exact ⟨rfl, rfl⟩

theorem compareInt_any (a b : Int) (w : World) : Calls Try.prog 45 #[.int .i64 a, .int .i64 b] w fun e w' => e = .returned (.int .i64 (cmpN a b)) ∧ w = w' := by
  unfold cmpN
  by_cases h : a < b
  · rw [if_pos h]
    go_enter Try.func45, Try.ntmps45
    go_wp2
    go_ret
    exact ⟨rfl, rfl⟩
  · rw [if_neg h]
    by_cases h2 : b < a
    · rw [if_pos h2]
      go_enter Try.func45, Try.ntmps45
      go_wp2
      go_ret
      exact ⟨rfl, rfl⟩
    · rw [if_neg h2]
      go_enter Try.func45, Try.ntmps45
      go_wp2
      go_ret
      exact ⟨rfl, rfl⟩

theorem l4Cmp_any (t o t' o' : Int) (w : World) :
    Calls Try.prog 26 #[.agg #[.int .i64 t, .int .i64 o], .agg #[.int .i64 t', .int .i64 o']] w fun e w' => e = .returned (.int .i64 (cmpS t o t' o')) ∧ Below w.heap.size w w' := by
  unfold cmpS
  have q1 := hide (fun w => cmpNum_any t t' w)
  have q2 := hide (fun w => cmpNum_any o o' w)
  generalize cmpN t t' = v0 at q1 ⊢
  generalize cmpN o o' = v1 at q2 ⊢
  by_cases g : v0 = 0
  · subst g
    rw [orI_zero]
    go_enter Try.func26, Try.ntmps26
    go_wp2_with fail
    refine (unhide q1 _).mono ?_
    rintro e w' ⟨rfl, rfl⟩
    go_wp2_with fail
    refine (unhide q2 _).mono ?_
    rintro e w' ⟨rfl, rfl⟩
    go_wp2_with fail
    go_ret
    exact ⟨rfl, bAl (bAl (Below.refl _ _) _) _⟩
  · rw [orI_not g]
    replace g := bne_zero g
    go_enter Try.func26, Try.ntmps26
    go_wp2_with fail
    refine (unhide q1 _).mono ?_
    rintro e w' ⟨rfl, rfl⟩
    go_wp2_with fail
    go_ret
    exact ⟨rfl, bAl (bAl (Below.refl _ _) _) _⟩

theorem cmpOr_any (b : Nat) (v0 v1 : Int) (w : World) (h0 : w.cell? ⟨b, 0, none⟩ = some (.int .i64 v0)) (h1 : w.cell? ⟨b, 1, none⟩ = some (.int .i64 v1)) :
    Calls Try.prog 44 #[.slice (some ⟨b, 0, none⟩) 2 2] w fun e w' => e = .returned (.int .i64 (orI v0 v1)) ∧ w = w' := by
  go_enter Try.func44, Try.ntmps44
  go_wp2
  go_loop [8] (fun i => ∃ k : Nat, k ≤ 2 ∧ i = .int .i64 k ∧ Hid (orI v0 v1 = if k = 0 then orI v0 v1 else if k = 1 then v1 else 0)) (fun i => 2 - (intOf i).toNat)
  case atStart => exact ⟨0, Nat.zero_le _, rfl, hide rfl⟩
  case round =>
    obtain ⟨k, hk, rfl, ho⟩ := hrel
    have hk' : k = 0 ∨ k = 1 ∨ k = 2 := by omega
    rcases hk' with rfl | rfl | rfl
    · by_cases g : v0 = 0
      · subst g
        go_wp2
        exact ⟨⟨1, by omega, rfl, hide rfl⟩, by simp [intOf]⟩
      · replace ho := hide (orI_not g v1)
        replace g := bne_zero g
        go_wp2
        go_ret
        exact ⟨ret_int (unhide ho).symm, rfl⟩
    · by_cases g : v1 = 0
      · subst g
        go_wp2
        exact ⟨⟨2, by omega, rfl, ho⟩, by simp [intOf]⟩
      · replace g := bne_zero g
        replace ho := hide (show orI v0 v1 = v1 from unhide ho)
        go_wp2
        go_ret
        exact ⟨ret_int (unhide ho).symm, rfl⟩
    · replace ho := hide (show orI v0 v1 = 0 from unhide ho)
      go_wp2
      go_ret
      exact ⟨ret_int (unhide ho).symm, rfl⟩
end Go.Proofs.Ytpdnimchmgbijaa
