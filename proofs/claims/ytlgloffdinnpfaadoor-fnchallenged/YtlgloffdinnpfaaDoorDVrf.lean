/- Verify on both sides; laws.toSig. -/
import Derived.Test.YtlgloffdinnpfaaDoorDSgnE
import Derived.BigQuiet
import Derived.Deep.QuietTactic
namespace Go.Proofs.YtlgloffdinnpfaaDoor.D
set_option maxRecDepth 20000
open Go.RowKit

theorem quiet_same' {P : Program} {f : FuncId} {args : Array Value} {w : World} {v : Value} {m : Nat} (h : Calls P f args (w.drewN m) fun e w' => e = .returned v ∧ w.drewN m = w') :
    Calls P f args (w.drewN m) fun e w' => e = .returned v ∧ ∃ m, w' = w.drewN m := h.mono fun _ _ ⟨a, b⟩ => ⟨a, m, b.symm⟩
theorem goodSig_any (r z : Int) (w : World) :
    Calls Tryd.prog 53 #[.agg #[.int .i64 r, .int .i64 z]] w fun e w' => e = .returned (.bool (decide (1 ≤ r ∧ r < 2147483579 ∧ 0 ≤ z ∧ z < 1073741789))) ∧ Below w.heap.size w w' := by
  go_enter Tryd.func53, Tryd.ntmps53
  go_wp2
  all_goals go_ret
  all_goals refine ⟨ret_bool ?_, bAl (Below.refl _ _) _⟩
  all_goals (rw [Bool.eq_iff_iff]; simp; try omega)
/-- A public number. -/
structure PubIs (p : Int) (b : Bool) : Prop where
  of : b = (decide (2 ≤ p ∧ p < 2147483579) && decide (pw p.toNat 1073741789 2147483579 = 1))
/-- It says whether p is a public number. -/
def RetPub (p : Int) (e : Ending) : Prop := ∃ b, PubIs p b ∧ e = .returned (.bool b)
theorem iPublic_any (p : Int) (w : World) :
    Calls Tryd.prog 45 #[.int .i64 p] w fun e w' => RetPub p e ∧ w = w' := by
  by_cases h : 2 ≤ p ∧ p < 2147483579
  · obtain ⟨n, rfl⟩ := Int.eq_ofNat_of_zero_le (show 0 ≤ p by omega)
    obtain ⟨q, hq⟩ : ∃ q, pw n 1073741789 2147483579 = q := ⟨_, rfl⟩
    have P := hide (show PubIs (n : Int) (decide (q = 1)) from ⟨by rw [decide_eq_true h, Int.toNat_natCast, hq]; rfl⟩)
    have HQ := hide hq
    clear hq
    obtain ⟨h1, h2⟩ := h
    go_enter Tryd.func45, Tryd.ntmps45
    go_wp2_with fail
    refine (iPower_any n 1073741789 2147483579 (by omega) (by decide) (by decide) (by decide) _).mono ?_
    rintro e w' ⟨rfl, rfl⟩
    rw [unhide HQ]
    go_wp2_with fail
    go_ret
    refine ⟨⟨_, unhide P, ret_bool ?_⟩, rfl⟩
    rw [Bool.eq_iff_iff]; simp; omega
  · have P := hide (show PubIs p false from ⟨by rw [decide_eq_false h]; rfl⟩)
    by_cases h1 : 2 ≤ p
    · have h2 : ¬ p < 2147483579 := fun k => h ⟨h1, k⟩
      clear h
      go_enter Tryd.func45, Tryd.ntmps45
      go_wp2_with fail
      go_ret
      exact ⟨⟨_, unhide P, rfl⟩, rfl⟩
    · clear h
      go_enter Tryd.func45, Tryd.ntmps45
      go_wp2_with fail
      go_ret
      exact ⟨⟨_, unhide P, rfl⟩, rfl⟩
/-- Whether a signature is right. -/
structure VerIs (p : Int) (d : List UInt8) (r z : Int) (b : Bool) : Prop where
  of : b = true ↔ PubIs p true ∧ d.length ≤ 20000 ∧ (1 ≤ r ∧ r < 2147483579 ∧ 0 ≤ z ∧ z < 1073741789) ∧ pw 4 z.toNat 2147483579 = r.toNat * pw p.toNat (eN r.toNat d) 2147483579 % 2147483579
theorem PubIs.one {p : Int} {a b : Bool} (h : PubIs p a) (k : PubIs p b) : a = b := h.of.trans k.of.symm
theorem VerIs.one {p : Int} {d : List UInt8} {r z : Int} {a b : Bool} (h : VerIs p d r z a) (k : VerIs p d r z b) : a = b := by
  have e : a = true ↔ b = true := h.of.trans k.of.symm
  cases a <;> cases b <;> simp_all
theorem VerIs.no {p : Int} {d : List UInt8} {r z : Int} (h : ¬ (PubIs p true ∧ d.length ≤ 20000 ∧ (1 ≤ r ∧ r < 2147483579 ∧ 0 ≤ z ∧ z < 1073741789))) : VerIs p d r z false :=
  { of := ⟨fun e => absurd e (by decide), fun k => absurd ⟨k.1, k.2.1, k.2.2.1⟩ h⟩ }
def RetVer (p : Int) (d : List UInt8) (r z : Int) (e : Ending) : Prop := ∃ b, VerIs p d r z b ∧ e = .returned (.bool b)
theorem pub_nat {p : Int} (h : PubIs p true) : ∃ n : Nat, p = n ∧ 2 ≤ n ∧ n < 2147483579 := by
  have h1 := h.of
  have h2 : 2 ≤ p ∧ p < 2147483579 := by
    apply Classical.byContradiction
    intro hn
    rw [decide_eq_false hn] at h1
    cases h1
  exact ⟨p.toNat, by omega, by omega, by omega⟩

set_option maxHeartbeats 400000 in
theorem iVerify_any (p : Int) (ad : Option Addr) (ld cd : Nat) (d : List UInt8) (r z : Int) (w : World) (h2 : ld ≤ 1048576) (hd : SlB w w.heap.size ad ld d) (hM : Mults w) :
    Calls Tryd.prog 46 #[.int .i64 p, .slice ad ld cd, .agg #[.int .i64 r, .int .i64 z]] w fun e w' => RetVer p d r z e ∧ Below w.heap.size w w' := by
  have HD := hide hd
  have ed := hide hd.1
  have HM := hide hM
  have h00 := hM.1
  clear hd hM
  have RA := hide (RowIs.new w #[.int .i64 r, .int .i64 z] 26)
  have BA := hide (bAl (Below.refl w.heap.size w) (.cells #[.int .i64 r, .int .i64 z] 26))
  go_enter Tryd.func46, Tryd.ntmps46
  go_wp2_with fail
  refine (iPublic_any p _).mono ?_
  rintro e w1 ⟨⟨b, hp, rfl⟩, rfl⟩
  cases b
  · have V := hide (show VerIs p d r z false from VerIs.no fun k => by cases hp.one k.1)
    go_wp2_with fail
    go_ret
    exact ⟨⟨_, unhide V, rfl⟩, unhide BA⟩
  by_cases hl : 20000 < ld
  · have V := hide (show VerIs p d r z false from VerIs.no fun k => by have := k.2.1; rw [← unhide ed] at this; omega)
    go_wp2_with fail
    go_ret
    exact ⟨⟨_, unhide V, rfl⟩, unhide BA⟩
  go_wp2_with fail
  refine (goodSig_any r z _).mono ?_
  rintro e w2 ⟨rfl, hb2⟩
  by_cases hg : 1 ≤ r ∧ r < 2147483579 ∧ 0 ≤ z ∧ z < 1073741789
  · rw [decide_eq_true hg]
    obtain ⟨R, rfl⟩ := Int.eq_ofNat_of_zero_le (show 0 ≤ r by omega)
    obtain ⟨Z, rfl⟩ := Int.eq_ofNat_of_zero_le (show 0 ≤ z by omega)
    obtain ⟨n, rfl, n1, n2⟩ := pub_nat hp
    have HP := hide hp
    have B2 := hide (bTr (unhide BA) hb2)
    have R2 := hide ((unhide RA).keep hb2)
    have c0 := (unhide R2).at (o := 0) (v := .int .i64 (R : Int)) rfl
    have c1 := (unhide R2).at (o := 1) (v := .int .i64 (Z : Int)) rfl
    have HGd := hide hg
    have r1 : R < 2147483579 := by omega
    have z1 : Z < 1073741789 := by omega
    clear hg hp hb2
    go_wp2_with fail
    refine (boundTo_any R ad ld cd d _ (by omega) (((unhide HD).keep (unhide B2)).mono (unhide B2).size) ((unhide HM).keepB (unhide B2) h00)).mono ?_
    rintro e w3 ⟨rfl, hb3⟩
    have B3 := hide (bTr (unhide B2) hb3)
    have R3 := hide ((unhide R2).keep hb3)
    clear hb3 c0 c1
    have c0 := (unhide R3).at (o := 0) (v := .int .i64 (R : Int)) rfl
    have c1 := (unhide R3).at (o := 1) (v := .int .i64 (Z : Int)) rfl
    have hel := eN_lt R d
    obtain ⟨E, hE⟩ : ∃ E, eN R d = E := ⟨_, rfl⟩
    rw [hE] at hel ⊢
    have HE := hide hE
    clear hE
    have q1 := hide (fun w => iPower_any 4 Z 2147483579 (by decide) (by decide) (by decide) (by omega) w)
    have q2 := hide (fun w => iPower_any n E 2147483579 n2 (by decide) (by decide) (by omega) w)
    have a1 := pw_lt 4 Z 2147483579 (by decide)
    have a2 := pw_lt n E 2147483579 (by decide)
    obtain ⟨x, hx⟩ : ∃ x, pw 4 Z 2147483579 = x := ⟨_, rfl⟩
    obtain ⟨y, hy⟩ : ∃ y, pw n E 2147483579 = y := ⟨_, rfl⟩
    have V := hide (show VerIs n d R Z (decide (x = R * y % 2147483579)) from ⟨by
      rw [decide_eq_true_iff, Int.toNat_natCast, Int.toNat_natCast, Int.toNat_natCast, unhide HE, hx, hy]
      exact ⟨fun k => ⟨unhide HP, by rw [← unhide ed]; omega, unhide HGd, k⟩, fun k => k.2.2.2⟩⟩)
    rw [hx] at q1 a1
    rw [hy] at q2 a2
    clear hx hy
    have hm := mul_ok r1 a2 (by decide)
    go_wp2_with fail
    go_quiet (first | (go_at_call_of 34 (Value.int IntKind.i64 (Z : Int)); exact quiet_same' (unhide q1 _)) | (go_at_call_of 34 (Value.int IntKind.i64 (n : Int)); exact quiet_same' (unhide q2 _)))
    go_wp2_with fail
    go_ret
    refine ⟨⟨_, unhide V, ret_bool ?_⟩, bDr (unhide B3) _⟩
    rw [Bool.eq_iff_iff, decide_eq_true_iff, beq_iff_eq]
    omega
  · rw [decide_eq_false hg]
    have V := hide (show VerIs p d r z false from VerIs.no fun k => hg k.2.2)
    have B2 := hide (bTr (unhide BA) hb2)
    clear hg hb2
    go_wp2_with fail
    go_ret
    exact ⟨⟨_, unhide V, rfl⟩, unhide B2⟩
end Go.Proofs.YtlgloffdinnpfaaDoor.D
