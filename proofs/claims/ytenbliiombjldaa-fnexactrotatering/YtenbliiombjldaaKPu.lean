/- Public numbers: isPublic and l2Public (out of DVrf, without signatures). -/
import Derived.Test.YtenbliiombjldaaDPow
namespace Go.Proofs.Ytenbliiombjldaa.D
set_option maxRecDepth 20000
open Go.RowKit

/-- A public number. -/
structure PubIs (p : Int) (b : Bool) : Prop where
  of : b = (decide (2 ≤ p ∧ p < 2147483579) && decide (pw p.toNat 1073741789 2147483579 = 1))
/-- It says whether p is a public number. -/
def RetPub (p : Int) (e : Ending) : Prop := ∃ b, PubIs p b ∧ e = .returned (.bool b)
theorem iPublic_any (p : Int) (w : World) :
    Calls Try.prog 40 #[.int .i64 p] w fun e w' => RetPub p e ∧ w = w' := by
  by_cases h : 2 ≤ p ∧ p < 2147483579
  · obtain ⟨n, rfl⟩ := Int.eq_ofNat_of_zero_le (show 0 ≤ p by omega)
    obtain ⟨q, hq⟩ : ∃ q, pw n 1073741789 2147483579 = q := ⟨_, rfl⟩
    have P := hide (show PubIs (n : Int) (decide (q = 1)) from ⟨by rw [decide_eq_true h, Int.toNat_natCast, hq]; rfl⟩)
    have HQ := hide hq
    clear hq
    obtain ⟨h1, h2⟩ := h
    go_enter Try.func40, Try.ntmps40
    go_wp2_with fail
    refine (iPower_any n 1073741789 2147483579 (by omega) (by decide) (by decide) (by decide) _).mono ?_
    rintro e w' ⟨rfl, rfl⟩
    rw [unhide HQ]
    go_wp2_with fail
    go_ret
    refine ⟨⟨_, unhide P, ret_bool ?_⟩, rfl⟩
    rw [Bool.eq_iff_iff]; simp; omega
  · have P := hide (show PubIs p false from ⟨by rw [decide_eq_false h]; rfl⟩)
    by_cases h1 : 2 ≤ p
    · have h2 : ¬ p < 2147483579 := fun k => h ⟨h1, k⟩
      clear h
      go_enter Try.func40, Try.ntmps40
      go_wp2_with fail
      go_ret
      exact ⟨⟨_, unhide P, rfl⟩, rfl⟩
    · clear h
      go_enter Try.func40, Try.ntmps40
      go_wp2_with fail
      go_ret
      exact ⟨⟨_, unhide P, rfl⟩, rfl⟩
theorem sPublic_any (p : Int) (w : World) :
    Calls Try.prog 25 #[.int .i64 p] w fun e w' => RetPub p e ∧ w = w' := by
  by_cases h : 2 ≤ p ∧ p < 2147483579
  · obtain ⟨n, rfl⟩ := Int.eq_ofNat_of_zero_le (show 0 ≤ p by omega)
    obtain ⟨q, hq⟩ : ∃ q, pw n 1073741789 2147483579 = q := ⟨_, rfl⟩
    have P := hide (show PubIs (n : Int) (decide (q = 1)) from ⟨by rw [decide_eq_true h, Int.toNat_natCast, hq]; rfl⟩)
    have HQ := hide hq
    clear hq
    obtain ⟨h1, h2⟩ := h
    go_enter Try.func25, Try.ntmps25
    go_wp2_with fail
    refine (sPower_any n 1073741789 2147483579 (by omega) (by decide) (by decide) (by decide) _).mono ?_
    rintro e w' ⟨rfl, rfl⟩
    rw [unhide HQ]
    go_wp2_with fail
    go_ret
    refine ⟨⟨_, unhide P, ret_bool ?_⟩, rfl⟩
    rw [Bool.eq_iff_iff]; simp; omega
  · have P := hide (show PubIs p false from ⟨by rw [decide_eq_false h]; rfl⟩)
    by_cases h1 : 2 ≤ p
    · have h2 : ¬ p < 2147483579 := fun k => h ⟨h1, k⟩
      clear h
      go_enter Try.func25, Try.ntmps25
      go_wp2_with fail
      go_ret
      exact ⟨⟨_, unhide P, rfl⟩, rfl⟩
    · clear h
      go_enter Try.func25, Try.ntmps25
      go_wp2_with fail
      go_ret
      exact ⟨⟨_, unhide P, rfl⟩, rfl⟩

def pubB (p : Int) : Bool := decide (2 ≤ p ∧ p < 2147483579) && decide (pw p.toNat 1073741789 2147483579 = 1)
theorem iPublic_p (p : Int) (w : World) : Calls Try.prog 40 #[.int .i64 p] w fun e w' => e = .returned (.bool (pubB p)) ∧ w = w' :=
  (iPublic_any p w).mono fun _ _ ⟨⟨_, h, e⟩, k⟩ => ⟨by rw [e, h.of]; rfl, k⟩
theorem sPublic_p (p : Int) (w : World) : Calls Try.prog 25 #[.int .i64 p] w fun e w' => e = .returned (.bool (pubB p)) ∧ w = w' :=
  (sPublic_any p w).mono fun _ _ ⟨⟨_, h, e⟩, k⟩ => ⟨by rw [e, h.of]; rfl, k⟩
end Go.Proofs.Ytenbliiombjldaa.D
