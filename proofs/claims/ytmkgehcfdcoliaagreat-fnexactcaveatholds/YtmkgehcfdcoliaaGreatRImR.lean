/- impl.risingByName at params, goodParams. -/
import Derived.Test.YtmkgehcfdcoliaaGreatRImP
namespace Go.Proofs.YtmkgehcfdcoliaaGreat.V
open Go.RowKit

set_option maxHeartbeats 400000 in
theorem goodParams1_any (x : ParamT) (w : World) :
    Calls Tryz.prog 71 #[.agg #[.string x.f0, .int .i64 x.f1]] w fun e w' => e = .returned (.string x.f0) ∧ Below w.heap.size w w' := by
  go_enter Tryz.func71, Tryz.ntmps71
  go_wp2
  go_ret
  exact ⟨rfl, bAl (Below.refl _ _) _⟩

set_option maxRecDepth 20000 in
set_option maxHeartbeats 1000000 in
theorem risBy1_any (b : Nat) (x y : ParamT) (w : World) (hc : w.cell? ⟨b, 0, none⟩ = some (.func (.func 71) #[] #[])) :
    Calls Tryz.prog 96 #[.agg #[.string x.f0, .int .i64 x.f1], .agg #[.string y.f0, .int .i64 y.f1], .pointer (some ⟨b, 0, none⟩)] w fun e w' => e = .returned (.int .i64 (cPar x y)) ∧ Below w.heap.size w w' := by
  have q1 := hide (fun x w => goodParams1_any x w)
  have q2 := hide (fun w => stringsCompare_any x.f0 y.f0 w)
  have zb : b < w.heap.size := World.block_lt_of_cell? w ⟨b, 0, none⟩ hc
  unfold cPar
  generalize cmpT x.f0.data.toList y.f0.data.toList = V at *
  obtain ⟨W1, hW1⟩ : ∃ W, W = w.alloc (.cells #[.string x.f0, .int .i64 x.f1] 78) := ⟨_, rfl⟩
  obtain ⟨wc, hW2⟩ : ∃ W, W = W1.alloc (.cells #[.string y.f0, .int .i64 y.f1] 78) := ⟨_, rfl⟩
  have z1 : W1.heap.size = w.heap.size + 1 := by rw [hW1]; simp
  have b1 : Below w.heap.size w W1 := by rw [hW1]; exact bAl (Below.refl _ _) _
  have b2 : Below W1.heap.size W1 wc := by rw [hW2]; exact bAl (Below.refl _ _) _
  have B := hide (bTr b1 b2)
  have r1 := (show RowIs W1 w.heap.size #[.string x.f0, .int .i64 x.f1] 78 by rw [hW1]; exact RowIs.new _ _ _).keep b2
  have r2 := show RowIs wc (w.heap.size + 1) #[.string y.f0, .int .i64 y.f1] 78 by rw [hW2, ← z1]; exact RowIs.new _ _ _
  have HW := hide (show (w.alloc (.cells #[.string x.f0, .int .i64 x.f1] 78)).alloc (.cells #[.string y.f0, .int .i64 y.f1] 78) = wc by rw [hW2, hW1])
  have ne : Nonempty (Kept wc) := ⟨⟨wc, Below.refl _ _⟩⟩
  have x0 := kept_cell r1.lt (r1.at (o := 0) (v := .string x.f0) rfl)
  have x1 := kept_cell r1.lt (r1.at (o := 1) (v := .int .i64 x.f1) rfl)
  have y0 := kept_cell r2.lt (r2.at (o := 0) (v := .string y.f0) rfl)
  have y1 := kept_cell r2.lt (r2.at (o := 1) (v := .int .i64 y.f1) rfl)
  have f0 := kept_cell (Nat.lt_of_lt_of_le zb (unhide B).size) (cellB (unhide B) zb hc)
  clear hW1 hW2 z1 b1 b2 r1 r2 hc
  go_enter Tryz.func96, Tryz.ntmps96
  go_wp2_with fail
  rw [unhide HW]
  refine wp_region_kept (by kernel_rfl) (by kernel_rfl) ?_
  repeat (first
    | go_big_quiet_step (first | (go_at_call 71; exact kept_call (unhide q1 x _)) | (go_at_call 71; exact kept_call (unhide q1 y _)) | (go_at_call 91; exact kept_same (unhide q2 _)))
    | quiet_step (first | (go_at_call 71; exact kept_call (unhide q1 x _)) | (go_at_call 71; exact kept_call (unhide q1 y _)) | (go_at_call 91; exact kept_same (unhide q2 _))))
  refine wpQuiet_nil ?_
  rintro _ ⟨q, rfl⟩
  go_wp2_with fail
  go_ret
  exact ⟨rfl, bTr (unhide B) q.h⟩

set_option maxRecDepth 20000 in
set_option maxHeartbeats 1000000 in
theorem risingPar_any (bn : Nat) (a : Option Addr) (len cap : Nat) (l : List ParamT) (w : World) (hl : len ≤ 1000) (hs : SlParam w a len l) (hc : w.cell? ⟨bn, 0, none⟩ = some (.func (.func 71) #[] #[])) :
    Calls Tryz.prog 95 #[.slice a len cap, .func (.func 96) #[] #[.pointer (some ⟨bn, 0, none⟩)]] w fun e w' => RetB e (RisP l l.length) ∧ Below w.heap.size w w' := by
  have HS := hide hs
  have zb : bn < w.heap.size := World.block_lt_of_cell? w ⟨bn, 0, none⟩ hc
  have HC := hide (fun (w' : World) (h : Below w.heap.size w w') => cellB (w' := w') h zb hc)
  clear hs hc
  go_enter Tryz.func95, Tryz.ntmps95
  go_wp2
  go_loopw [5] (fun i w' => ∃ k : Nat, 1 ≤ k ∧ (k ≤ len ∨ k = 1) ∧ i = .int .i64 k ∧ Hid (Below w.heap.size w w') ∧ Hid (RisP l k)) (fun i _ => len - (Go.RowKit.intOf i).toNat)
  case atStart => exact ⟨1, Nat.le_refl _, .inr rfl, rfl, hide (Below.refl _ _), hide (fun i _ h h' => absurd h (by omega))⟩
  case round =>
    obtain ⟨k, hk1, hk, rfl, hb, hris⟩ := hrel
    by_cases hlt : k < len
    · obtain ⟨j, rfl⟩ : ∃ j, k = j + 1 := ⟨k - 1, by omega⟩
      have hk' : j + 1 < l.length := by rw [← (unhide HS).1]; exact hlt
      obtain ⟨b, off, rfl, hrow⟩ := ((unhide HS).keep (unhide hb)).at hlt
      have zk := hrow.z
      have p0 := hrow.c0 (j + 1) hk'
      have p1 := hrow.c1 (j + 1) hk'
      have q0 := hrow.c0 j (by omega)
      have q1 := hrow.c1 j (by omega)
      have qc := hide (fun (x : Kept wr) => risBy1_any bn (l[j]'(by omega)) (l[j + 1]'hk') x.w (unhide HC _ (bTr (unhide hb) x.h)))
      have stepR := hide (fun g : cPar (l[j]'(by omega)) (l[j + 1]'hk') < 0 => (unhide hris).step hk' (fun _ => g))
      have noR := hide (fun (g : ¬ cPar (l[j]'(by omega)) (l[j + 1]'hk') < 0) (h : RisP l l.length) => g (h (j + 1) hk' (by omega) hk'))
      clear hrow
      generalize l[j + 1] = P at *
      generalize l[j] = Q at *
      have ne : Nonempty (Kept wr) := ⟨⟨wr, Below.refl _ _⟩⟩
      have x0 := kept_cell zk p0
      have y0 := kept_cell zk q0
      have x1 := kept_cell zk p1
      have y1 := kept_cell zk q1
      have ej : IntKind.i64.wrap ((j : Int) + 1 - 1) = (j : Int) := by rw [IntKind.wrap_i64]; omega
      have i0 : (0 : Int) ≤ (j : Int) := by omega
      have i1 : (j : Int) < (len : Int) := by omega
      have i2 : (j : Int) + 1 < (len : Int) := by omega
      clear p0 q0 p1 q1
      generalize cPar Q P = V at qc stepR noR
      by_cases hc : V < 0
      · have dc : decide (0 ≤ V) = false := by simp; omega
        replace stepR := hide (unhide stepR hc)
        clear hc
        go_wp2_with fail
        refine wp_region_kept (by kernel_rfl) (by kernel_rfl) ?_
        repeat (first
          | go_big_quiet_step ((go_at_call 96; exact kept_call (unhide qc _)))
          | quiet_step ((go_at_call 96; exact kept_call (unhide qc _))))
        refine wpQuiet_nil ?_
        rintro _ ⟨q, rfl⟩
        go_wp2_with fail
        exact ⟨⟨j + 1 + 1, by omega, by omega, by go_num, hide (bTr (unhide hb) q.h), stepR⟩, by simp [Go.RowKit.intOf]; omega⟩
      · have dc : decide (0 ≤ V) = true := by simp; omega
        replace noR := hide (unhide noR hc)
        clear hc
        go_wp2_with fail
        refine wp_region_kept (by kernel_rfl) (by kernel_rfl) ?_
        repeat (first
          | go_big_quiet_step ((go_at_call 96; exact kept_call (unhide qc _)))
          | quiet_step ((go_at_call 96; exact kept_call (unhide qc _))))
        refine wpQuiet_nil ?_
        rintro _ ⟨q, rfl⟩
        go_wp2_with fail
        go_ret
        exact ⟨retB (b := false) ⟨fun h => (by cases h), fun h => absurd h (unhide noR)⟩, bTr (unhide hb) q.h⟩
    · have hR : Hid (RisP l l.length) := hide (fun i h h0 h1 => by
        have hl' := (unhide HS).1
        exact unhide hris i h h0 (by omega))
      go_wp2_with fail
      go_ret
      exact ⟨retB (b := true) ⟨fun _ => unhide hR, fun _ => rfl⟩, unhide hb⟩

set_option maxHeartbeats 400000 in
theorem risByName_any (a : Option Addr) (len cap : Nat) (l : List ParamT) (w : World) (hl : len ≤ 1000) (hs : SlParam w a len l) :
    Calls Tryz.prog 70 #[.slice a len cap, .func (.func 71) #[] #[]] w fun e w' => RetB e (RisP l l.length) ∧ Below w.heap.size w w' := by
  obtain ⟨W, hW⟩ : ∃ W, W = w.alloc (.cells #[.func (.func 71) #[] #[]] 110) := ⟨_, rfl⟩
  have R := show RowIs W w.heap.size #[.func (.func 71) #[] #[]] 110 by rw [hW]; exact RowIs.new _ _ _
  have B := hide (show Below w.heap.size w W by rw [hW]; exact bAl (Below.refl _ _) _)
  have HW := hide hW.symm
  have q := hide (risingPar_any w.heap.size a len cap l W hl (hs.keep (unhide B)) (R.at (o := 0) rfl))
  have hst := @run_store Tryz.prog
  clear hW R hs
  go_enter Tryz.func70, Tryz.ntmps70
  go_wp2_with fail
  rw [unhide HW]
  refine (unhide q).mono ?_
  rintro e w1 ⟨⟨v, rfl, hv⟩, hb⟩
  have HV := hide hv
  have B1 := hide (bTr (unhide B) hb)
  clear hv hb q hst HW B
  go_wp2_with fail
  go_ret
  exact ⟨retB (unhide HV), unhide B1⟩

set_option maxHeartbeats 400000 in
theorem goodParams_any (a : Option Addr) (len cap : Nat) (l : List ParamT) (w : World) (hl : len ≤ maxLen) (hs : SlParam w a len l) (hok : ∀ q ∈ l, ParamT.Ok q) :
    Calls Tryz.prog 45 #[.slice a len cap] w fun e w' => RetB e (l.length ≤ 6 ∧ AllP l l.length ∧ RisP l l.length) ∧ Below w.heap.size w w' := by
  have HS := hide hs
  have q := hide (goodList_Param (fun x => gPar x = true) a len cap l w hl hs (fun x hx w' _ => goodParam_any x (hok x hx) w'))
  clear hs
  go_enter Tryz.func45, Tryz.ntmps45
  go_wp2_with fail
  refine (unhide q).mono ?_
  rintro e w1 ⟨⟨v, rfl, hv⟩, hb⟩
  have B1 := hide hb
  have HV := hide hv
  clear hb hv q
  cases v
  · go_wp2_with fail
    go_ret
    exact ⟨retB (b := false) ⟨fun h => (by cases h), fun h => (unhide HV).2 ⟨by rw [(unhide HS).1]; exact h.1, h.2.1⟩⟩, unhide B1⟩
  · have h2 := (unhide HV).1 rfl
    have q := hide (risByName_any a len cap l w1 (by omega) ((unhide HS).keep (unhide B1)))
    have hA := hide h2.2
    have hL := hide h2.1
    clear h2 HV
    go_wp2_with fail
    refine (unhide q).mono ?_
    rintro e w2 ⟨⟨v, rfl, hv⟩, hb⟩
    have B2 := hide (bTr (unhide B1) hb)
    have HV := hide hv
    clear hb hv q B1
    go_wp2_with fail
    go_ret
    refine ⟨retB (b := v) ⟨fun h => ⟨by rw [← (unhide HS).1]; exact unhide hL, unhide hA, (unhide HV).1 h⟩, fun h => (unhide HV).2 h.2.2⟩, unhide B2⟩
end Go.Proofs.YtmkgehcfdcoliaaGreat.V
