/- spec.Verify. -/
import Derived.Test.YtpagfcdoedlnoaaDoorDVrf
namespace Go.Proofs.YtpagfcdoedlnoaaDoor.D
set_option maxRecDepth 20000
open Go.RowKit

structure Kept (W : World) where
  w : World
  h : Below W.heap.size W w
theorem wp_region_kept {P : Program} {id : Nat} {Q : Exit → Act → World → Prop} {a : Act} {W : World} {l : List Oper} (hm : P.follows .mixedOrders = true) (hB : Region.lexB .any l.toArray = true)
    (h : wpQuiet P l.toArray (fun w' => ∃ x : Kept W, w' = x.w) (fun a' => ∀ w', (∃ x : Kept W, w' = x.w) → Q .normal a' w') l a) : (Code.region id l.toArray true).wp P Q a W :=
  wp_region_quiet (C := fun w' => ∃ x : Kept W, w' = x.w) hm hB ⟨⟨{ W with drawn := W.drawn + 1 }, ⟨rfl, rfl, rfl, Nat.le_refl _, fun _ _ => rfl⟩⟩, rfl⟩ (by simpa using h)
theorem kept_call {P : Program} {f : FuncId} {args : Array Value} {W : World} {x : Kept W} {v : Value}
    (h : Calls P f args x.w fun e w' => e = .returned v ∧ Below x.w.heap.size x.w w') : Calls P f args x.w fun e w'' => e = .returned v ∧ ∃ y : Kept W, w'' = y.w :=
  h.mono fun _ w'' ⟨he, hb⟩ => ⟨he, ⟨w'', bTr x.h hb⟩, rfl⟩
theorem kept_same {P : Program} {f : FuncId} {args : Array Value} {W : World} {x : Kept W} {v : Value}
    (h : Calls P f args x.w fun e w' => e = .returned v ∧ x.w = w') : Calls P f args x.w fun e w'' => e = .returned v ∧ ∃ y : Kept W, w'' = y.w :=
  h.mono fun _ _ ⟨he, hb⟩ => ⟨he, x, hb.symm⟩
theorem kept_cell {W : World} {p : Addr} {v : Value} (hp : p.block < W.heap.size) (hc : W.cell? p = some v) (x : Kept W) : x.w.cell? p = some v := by
  rw [x.h.cell hp]; exact hc

set_option maxHeartbeats 400000 in
theorem sVerify_any (p : Int) (ad : Option Addr) (ld cd : Nat) (d : List UInt8) (r z : Int) (w : World) (h2 : ld ≤ 1048576) (hd : SlB w w.heap.size ad ld d) :
    Calls Tryd.prog 27 #[.int .i64 p, .slice ad ld cd, .agg #[.int .i64 r, .int .i64 z]] w fun e w' => RetVer p d r z e ∧ Below w.heap.size w w' := by
  have HD := hide hd
  have ed := hide hd.1
  clear hd
  have RA := hide (RowIs.new w #[.int .i64 r, .int .i64 z] 24)
  have BA := hide (bAl (Below.refl w.heap.size w) (.cells #[.int .i64 r, .int .i64 z] 24))
  go_enter Tryd.func27, Tryd.ntmps27
  go_wp2_with fail
  refine (sPublic_any p _).mono ?_
  rintro e w1 ⟨⟨b, hp, rfl⟩, rfl⟩
  cases b
  · have V := hide (show VerIs p d r z false from VerIs.no fun k => by cases hp.one k.1)
    go_wp2_with fail
    go_ret
    exact ⟨⟨_, unhide V, rfl⟩, unhide BA⟩
  by_cases hl : 20000 < ld
  · have V := hide (show VerIs p d r z false from VerIs.no fun k => by have := k.2.1; rw [← unhide ed] at this; omega)
    go_wp2_with fail
    go_ret
    exact ⟨⟨_, unhide V, rfl⟩, unhide BA⟩
  by_cases hg : 1 ≤ r ∧ r < 2147483579 ∧ 0 ≤ z ∧ z < 1073741789
  · have g1 : ¬ r < 1 := by omega
    have g2 : ¬ 2147483579 ≤ r := by omega
    have g3 : ¬ z < 0 := by omega
    have g4 : ¬ 1073741789 ≤ z := by omega
    have HGd := hide hg
    have HP := hide hp
    clear hg hp
    go_wp2_with fail
    obtain ⟨R, rfl⟩ := Int.eq_ofNat_of_zero_le (show 0 ≤ r by omega)
    obtain ⟨Z, rfl⟩ := Int.eq_ofNat_of_zero_le (show 0 ≤ z by omega)
    obtain ⟨n, rfl, n1, n2⟩ := pub_nat (unhide HP)
    have r1 : R < 2147483579 := by omega
    have r0 : 1 ≤ R := by omega
    have z1 : Z < 1073741789 := by omega
    have hel := eN_lt R d
    obtain ⟨E, hE⟩ : ∃ E, eN R d = E := ⟨_, rfl⟩
    rw [hE] at hel
    have HE := hide hE
    have W0 := hide (fun k : Kept (w.alloc (.cells #[.int .i64 (R : Int), .int .i64 (Z : Int)] 24)) => l2E_any R ad ld cd d k.w (by omega) h2 (((unhide HD).keep (bTr (unhide BA) k.h)).mono (bTr (unhide BA) k.h).size))
    rw [hE] at W0
    clear hE
    have q1 := hide (fun w => sPower_any 4 Z 2147483579 (by decide) (by decide) (by decide) (by omega) w)
    have q2 := hide (fun w => sPower_any n E 2147483579 n2 (by decide) (by decide) (by omega) w)
    have a1 := pw_lt 4 Z 2147483579 (by decide)
    have a2 := pw_lt n E 2147483579 (by decide)
    obtain ⟨x, hx⟩ : ∃ x, pw 4 Z 2147483579 = x := ⟨_, rfl⟩
    obtain ⟨y, hy⟩ : ∃ y, pw n E 2147483579 = y := ⟨_, rfl⟩
    have V := hide (show VerIs n d R Z (decide (x = R * y % 2147483579)) from ⟨by
      rw [decide_eq_true_iff, Int.toNat_natCast, Int.toNat_natCast, Int.toNat_natCast, unhide HE, hx, hy]
      exact ⟨fun k => ⟨unhide HP, by rw [← unhide ed]; omega, unhide HGd, k⟩, fun k => k.2.2.2⟩⟩)
    rw [hx] at q1 a1
    rw [hy] at q2 a2
    clear hx hy
    have hm := mul_ok r1 a2 (by decide)
    have ne : Nonempty (Kept (w.alloc (.cells #[.int .i64 (R : Int), .int .i64 (Z : Int)] 24))) := ⟨⟨_, Below.refl _ _⟩⟩
    have c0 := fun k : Kept (w.alloc (.cells #[.int .i64 (R : Int), .int .i64 (Z : Int)] 24)) => kept_cell (p := ⟨w.heap.size, 0, none⟩) (unhide RA).lt ((unhide RA).at (o := 0) (v := .int .i64 (R : Int)) rfl) k
    have c1 := fun k : Kept (w.alloc (.cells #[.int .i64 (R : Int), .int .i64 (Z : Int)] 24)) => kept_cell (p := ⟨w.heap.size, 1, none⟩) (unhide RA).lt ((unhide RA).at (o := 1) (v := .int .i64 (Z : Int)) rfl) k
    refine wp_region_kept (by kernel_rfl) (by kernel_rfl) ?_
    repeat (first
      | go_big_quiet_step (first | (go_at_call_of 37 (Value.int IntKind.i64 (Z : Int)); exact kept_same (unhide q1 _)) | (go_at_call_of 37 (Value.int IntKind.i64 (n : Int)); exact kept_same (unhide q2 _)) | (go_at_call 38; exact kept_call (unhide W0 _)))
      | quiet_step (first | (go_at_call_of 37 (Value.int IntKind.i64 (Z : Int)); exact kept_same (unhide q1 _)) | (go_at_call_of 37 (Value.int IntKind.i64 (n : Int)); exact kept_same (unhide q2 _)) | (go_at_call 38; exact kept_call (unhide W0 _))))
    refine wpQuiet_nil ?_
    rintro _ ⟨k, rfl⟩
    clear ne c0 c1 W0
    obtain ⟨w3, hb3⟩ := k
    have B3 := hide (bTr (unhide BA) hb3)
    show Exit.then _ _ _ _ w3
    clear hb3
    generalize decide (2147483579 ≤ (R : Int)) = bb1
    generalize decide (1073741789 ≤ (Z : Int)) = bb2
    go_wp2_with fail
    go_ret
    refine ⟨⟨_, unhide V, ret_bool ?_⟩, unhide B3⟩
    rw [Bool.eq_iff_iff, decide_eq_true_iff, beq_iff_eq]
    omega
  · have V := hide (show VerIs p d r z false from VerIs.no fun k => hg k.2.2)
    by_cases g1 : r < 1
    · clear hg
      go_wp2_with fail
      go_ret
      exact ⟨⟨_, unhide V, rfl⟩, unhide BA⟩
    by_cases g2 : 2147483579 ≤ r
    · clear hg
      go_wp2_with fail
      go_ret
      exact ⟨⟨_, unhide V, rfl⟩, unhide BA⟩
    by_cases g3 : z < 0
    · clear hg
      go_wp2_with fail
      go_ret
      exact ⟨⟨_, unhide V, rfl⟩, unhide BA⟩
    have g4 : 1073741789 ≤ z := by omega
    clear hg
    go_wp2_with fail
    go_ret
    exact ⟨⟨_, unhide V, rfl⟩, unhide BA⟩
end Go.Proofs.YtpagfcdoedlnoaaDoor.D
