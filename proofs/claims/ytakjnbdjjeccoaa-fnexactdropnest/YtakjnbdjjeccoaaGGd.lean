/- Good nests: spec.l5Group, l5CmpNest, impl.isGroup, goodNest, compareNests, rising. -/
import Derived.Test.YtakjnbdjjeccoaaGCmp
import Derived.Test.YtakjnbdjjeccoaaGNest
import Derived.Test.YtakjnbdjjeccoaaGGro
import Derived.Deep.RegionHeld3
namespace Go.Proofs.Ytakjnbdjjeccoaa
open Go.RowKit

def orI (a b : Int) : Int := if a = 0 then b else a
theorem orI_not {a : Int} (h : ¬ a = 0) (b : Int) : orI a b = a := by unfold orI; rw [if_neg h]
theorem bne_zero {c : Int} (h : ¬ c = 0) : (c != 0) = true := by simpa using h
def b0 (s : ByteArray) : Nat := (s.data.toList[0]?.getD 0).toNat
/-- A group's name. -/
def isGrp (s : ByteArray) : Bool := goodName s && (decide (65 ≤ b0 s) && decide (b0 s ≤ 90))
theorem goodName_pos {s : ByteArray} (h : goodName s = true) : 0 < s.size := by
  rcases Nat.eq_zero_or_pos s.size with e | e
  · rw [goodName_size (.inl (by omega))] at h; cases h
  · exact e
theorem goodName_le {s : ByteArray} (h : goodName s = true) : s.size ≤ 30 := by
  rcases Nat.lt_or_ge 30 s.size with e | e
  · rw [goodName_size (.inr e)] at h; cases h
  · exact e
theorem b0_at (s : ByteArray) (h : 0 < s.size) : (b0 s : Int) = (s[0].toNat : Int) := digB_getD s h

set_option maxHeartbeats 400000 in
theorem l5Group_any (s : ByteArray) (hs : s.size ≤ maxLen) (w : World) :
    Calls Try.prog 42 #[.string s] w fun e w' => e = .returned (.bool (isGrp s)) ∧ w = w' := by
  have q := hide (fun w => sGoodName_any s hs w)
  unfold isGrp
  cases hg : goodName s
  · rw [hg] at q
    go_enter Try.func42, Try.ntmps42
    go_wp2_with (go_at_call 43; refine (unhide q _).mono ?_; rintro e w' ⟨rfl, rfl⟩)
    go_ret
    exact ⟨rfl, rfl⟩
  · rw [hg] at q
    have hp := goodName_pos hg
    have e0 := hide (b0_at s hp)
    clear hg
    go_enter Try.func42, Try.ntmps42
    go_wp2_with (go_at_call 43; refine (unhide q _).mono ?_; rintro e w' ⟨rfl, rfl⟩)
    all_goals go_ret
    all_goals
      refine ⟨ret_bool ?_, rfl⟩
      have e0 := unhide e0
      rw [Bool.eq_iff_iff]
      simp
      omega

set_option maxHeartbeats 400000 in
theorem isGroup_any (s : ByteArray) (hs : s.size ≤ maxLen) (w : World) :
    Calls Try.prog 67 #[.string s] w fun e w' => e = .returned (.bool (isGrp s)) ∧ Below w.heap.size w w' := by
  have q := hide (fun w => iGoodName_any s hs w)
  unfold isGrp
  cases hg : goodName s
  · rw [hg] at q
    go_enter Try.func67, Try.ntmps67
    go_wp2_with (go_at_call 79; refine (unhide q _).mono ?_; rintro e w1 ⟨rfl, hb⟩)
    go_ret
    exact ⟨rfl, hb⟩
  · rw [hg] at q
    have hp := goodName_pos hg
    have e0 := hide (b0_at s hp)
    clear hg
    go_enter Try.func67, Try.ntmps67
    go_wp2_with (go_at_call 79; refine (unhide q _).mono ?_; rintro e w1 ⟨rfl, hb⟩)
    all_goals go_ret
    all_goals
      refine ⟨ret_bool ?_, hb⟩
      have e0 := unhide e0
      rw [Bool.eq_iff_iff]
      simp
      omega
end Go.Proofs.Ytakjnbdjjeccoaa
