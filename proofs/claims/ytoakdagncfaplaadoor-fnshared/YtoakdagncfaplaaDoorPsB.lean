/- slices.Backward over ints; impl.valueAt. -/
import Derived.Test.YtoakdagncfaplaaDoorPsP
import Derived.RangeFuncBox
import Derived.RangeFuncNested
import Derived.RangeFuncBound
import Derived.RangeFuncCalls
import Derived.RangeFuncLeaves
import Derived.Shelf.Abstract
import Derived.Shelf.RegionOpen
import Derived.WalkKit
import Derived.OwnWalkIn
import Derived.TacticsInMore
import Derived.LoopNIn
import Derived.LoopIn
import Derived.Maps.AppendAt
import Derived.Deep.RegionHeld
namespace Go.Proofs.YtoakdagncfaplaaDoor.D
open Go.RowKit Go.Shelf
attribute [local go_sem] Oper.semAt_some

/-- A number of the field. -/
abbrev FE := { z : Int // 0 ≤ z ∧ z < 1073741789 }
theorem rev_step (zs : List FE) (p : Nat) (h : p < zs.length) : (zs.drop p).reverse = (zs.drop (p + 1)).reverse ++ [zs[p]] := by
  rw [List.drop_eq_getElem_cons h, List.reverse_cons]
/-- The ints zs lie at the head of block b. -/
def IntsAt (W : World) (b : Nat) (zs : List FE) : Prop := ∀ j (h : j < zs.length), W.cell? ⟨b, j, none⟩ = some (.int .i64 zs[j].1)
/-- All cells but those of one block stay. -/
def KeepC (y : Nat) (W W' : World) : Prop := ∀ c o v, c ≠ y → W.cell? ⟨c, o, none⟩ = some v → W'.cell? ⟨c, o, none⟩ = some v
theorem KeepC.refl (y : Nat) (W : World) : KeepC y W W := fun _ _ _ _ h => h
theorem KeepC.trans {y : Nat} {A B C : World} (h : KeepC y A B) (k : KeepC y B C) : KeepC y A C := fun c o v n e => k c o v n (h c o v n e)
theorem KeepC.put {y : Nat} {w : World} (W : World) (l : Nat) (o o' : Obj) (_ : w.heap.size ≤ l) (h : W.heap[l]? = some o) (h2 : o.isCells = false) (_ : o.isWalk = false) : KeepC y W (W.putObj l o') :=
  fun c f v _ e => cell_kept e (grownBy_putObj' W l o') (fun r er => by cases er; exact ⟨o, h, h2⟩)
theorem KeepC.set (y o : Nat) (W : World) (v : Value) : KeepC y W (W.setCell ⟨y, o, none⟩ v) := fun c f u n e => by
  rw [World.cell?_setCell_far _ _ _ _ (fun h => n h.symm)]; exact e
theorem IntsAt.kept {y b : Nat} {A B : World} {zs : List FE} (h : IntsAt A b zs) (hn : b ≠ y) (hb : KeepC y A B) : IntsAt B b zs := fun j hj => hb _ _ _ hn (h j hj)

set_option maxRecDepth 100000 in
set_option maxHeartbeats 2000000 in
theorem back1_in (F : Fence) (n : Nat) (hf : F.fn 31) (hro : F.round = none) (hn : 1 ≤ n) (l Bs y b cap : Nat) (zs : List FE) (hlen : zs.length ≤ 1000) (J Jx : List (Nat × FE) → World → Prop)
    (hY : ∀ pre x W, J pre W → pre.length < zs.length → YieldAt F (n - 1) Tryd.prog l #[.int .i64 (x.1 : Int), .int .i64 x.2.1] W fun e W' =>
      (e = .returned (.bool true) ∧ J (pre ++ [x]) W' ∧ KeepC y W W') ∨ (e = .returned (.bool false) ∧ Jx (pre ++ [x]) W'))
    (W : World) (hB : Bs ≠ y) (hb : b ≠ y) (hBs : W.cell? ⟨Bs, 0, none⟩ = some (.slice (some ⟨b, 0, none⟩) zs.length cap)) (hc : IntsAt W b zs) (h0 : J [] W) :
    CallsIn F n Tryd.prog 31 #[.func (.yield l) #[] #[], .pointer (some ⟨Bs, 0, none⟩)] W fun e W' => (∃ v, e = .returned v) ∧
      ((∃ ys : List (Nat × FE), ys.map Prod.snd = zs.reverse ∧ J ys W') ∨ (∃ pre : List (Nat × FE), pre.length ≤ zs.length ∧ Jx pre W')) := by
  refine callsIn_of_wp Tryd.func31 rfl hf ?_ hro
  simp only [Tryd.ntmps31, List.size_toArray, List.length_cons, List.length_nil, Nat.reduceAdd, Nat.reduceSub, Array.replicate_succ, Array.replicate_zero, List.push_toArray, List.append_toArray, List.nil_append, List.cons_append]
  gi_wp2
  gi_loopw [3] (fun i wr => ∃ (m : Nat) (pre : List (Nat × FE)), m ≤ zs.length ∧ i = .int .i64 ((m : Int) - 1) ∧ pre.map Prod.snd = (zs.drop m).reverse ∧ J pre wr ∧ KeepC y W wr) (fun i _ => (intOf i + 1).toNat)
  case atStart => exact ⟨zs.length, [], Nat.le_refl _, rfl, by simp, h0, KeepC.refl _ _⟩
  case round =>
    obtain ⟨m, pre, hm, rfl, hpre, hJ, hk⟩ := hrel
    have hs1 := hk _ _ _ hB hBs
    cases m with
    | zero =>
      gi_wp2
      go_end0
      exact ⟨⟨_, rfl⟩, .inl ⟨pre, by simpa using hpre, hJ⟩⟩
    | succ p =>
      have e1 : ((p + 1 : Nat) : Int) - 1 = (p : Int) := by omega
      rw [e1]
      have hp : p < zs.length := by omega
      have hl : pre.length = zs.length - (p + 1) := by
        have := congrArg List.length hpre
        simpa using this
      have c1 := hc.kept hb hk p hp
      obtain ⟨z, hz⟩ : ∃ z, zs[p] = z := ⟨_, rfl⟩
      rw [hz] at c1
      have hst : (pre ++ [(p, z)]).map Prod.snd = (zs.drop p).reverse := by rw [rev_step zs p hp, hz, List.map_append, hpre]; rfl
      obtain ⟨fn, tmps, assign, body, hy, hR⟩ := hY pre (p, z) wr hJ (by omega)
      clear hz
      dsimp only at hy
      have i0 : (0 : Int) ≤ (p : Int) := by omega
      have i1 : (p : Int) < (zs.length : Int) := by omega
      clear e1
      gi_wp2
      refine hR.mono ?_
      rintro e W3 (⟨rfl, hJ3, hk3⟩ | ⟨rfl, hJx3⟩)
      · gi_wp2
        go_roundw
        case rel => exact ⟨p, pre ++ [(p, z)], by omega, rfl, hst, hJ3, hk.trans hk3⟩
        case measure => simp [intOf]
      · gi_wp2
        refine bodyPost_ret (results_none rfl _ _ _) rfl ?_
        exact ⟨⟨_, rfl⟩, .inr ⟨pre ++ [(p, z)], by simp; omega, hJx3⟩⟩

set_option maxHeartbeats 1000000 in
theorem back_in (F : Fence) (n : Nat) (hf : F.fn 22) (hro : F.round = none) (a : Option Addr) (len cap : Nat) (w : World) :
    CallsIn F n Tryd.prog 22 #[.slice a len cap] w fun e w' => e = .returned (.func (.func 31) #[] #[.pointer (some ⟨w.heap.size, 0, none⟩)]) ∧ w' = w.alloc (.cells #[.slice a len cap] 39) := by
  refine callsIn_of_wp Tryd.func22 rfl hf ?_ hro
  simp only [Tryd.ntmps22, List.size_toArray, List.length_cons, List.length_nil, Nat.reduceAdd, Nat.reduceSub, Array.replicate_succ, Array.replicate_zero, List.push_toArray, List.append_toArray, List.nil_append, List.cons_append]
  gi_wp2
  go_ret
  exact ⟨rfl, rfl⟩

theorem back_stops (F : Fence) (n : Nat) (hf : F.fn 31) (hro : F.round = none) (hn : 1 ≤ n) (Bs y b cap : Nat) (zs : List FE) (hlen : zs.length ≤ 1000) (w : World) (hB : Bs ≠ y) (hb : b ≠ y)
    (hBs : w.cell? ⟨Bs, 0, none⟩ = some (.slice (some ⟨b, 0, none⟩) zs.length cap)) (hc : IntsAt w b zs) :
    SeqStopsK F n Tryd.prog 31 #[.pointer (some ⟨Bs, 0, none⟩)] (fun x : Nat × FE => #[Value.int .i64 (x.1 : Int), Value.int .i64 x.2.1]) (KeepC y) (fun ys => ys.map Prod.snd = zs.reverse) (fun pre => pre.length ≤ zs.length) zs.length w := fun l J Jx W hW _ _ hY h0 => by
  have k : ∀ c o v, w.cell? ⟨c, o, none⟩ = some v → W.cell? ⟨c, o, none⟩ = some v := fun c o v e => (hW.cell (p := ⟨c, o, none⟩) (World.block_lt_of_cell? w _ e)).trans e
  exact back1_in F n hf hro hn l Bs y b cap zs hlen J Jx hY W hB hb (k _ _ _ hBs) (fun j hj => k _ _ _ (hc j hj)) h0

set_option maxRecDepth 100000 in
set_option maxHeartbeats 2000000 in
theorem valueAt_in (F : Fence) (n : Nat) (h1 : F.fn 13) (h2 : F.fn 22) (h3 : F.fn 31) (hro : F.round = none) (hn : 3 ≤ n) (b cap : Nat) (zs : List FE) (x : Int) (hlen : zs.length ≤ 1000) (w : World) (hc : IntsAt w b zs) (hbw : b < w.heap.size)
    (hx : 0 ≤ x) (hx2 : x ≤ 1000) :
    CallsIn F n Tryd.prog 13 #[.slice (some ⟨b, 0, none⟩) zs.length cap, .int .i64 x] w fun e W' => e = .returned (.int .i64 (hor 1073741789 x (zs.map (·.1)))) ∧ Below w.heap.size w W' := by
  have hn1 : 1 ≤ n := by omega
  refine callsIn_of_wp_marks Tryd.func13 rfl h1 ?_ hro
  simp only [Tryd.ntmps13, List.size_toArray, List.length_cons, List.length_nil, Nat.reduceAdd, Nat.reduceSub, Array.replicate_succ, Array.replicate_zero, List.push_toArray, List.append_toArray, List.nil_append, List.cons_append]
  gi_wp2_with (gi_at_call 22; refine (back_in F (n - 1) h2 hro _ _ _ _).mono ?_; rintro e w' ⟨rfl, rfl⟩)
  have bX := Boxed.new w 3 (.int .i64 x)
  have bY := Boxed.new (w.alloc (.cells #[.int .i64 x] 3)) 3 (.int .i64 0)
  have bS := Boxed.new ((w.alloc (.cells #[.int .i64 x] 3)).alloc (.cells #[.int .i64 0] 3)) 39 (.slice (some ⟨b, 0, none⟩) zs.length cap)
  rw [World.size_alloc] at bY
  rw [World.size_alloc, World.size_alloc] at bS
  have hB0 : Below w.heap.size w (((w.alloc (.cells #[.int .i64 x] 3)).alloc (.cells #[.int .i64 0] 3)).alloc (.cells #[.slice (some ⟨b, 0, none⟩) zs.length cap] 39)) := (((Below.refl _ w).alloc (Nat.le_refl _) _).alloc (by simp) _).alloc (by simp; omega) _
  have hcW : IntsAt (((w.alloc (.cells #[.int .i64 x] 3)).alloc (.cells #[.int .i64 0] 3)).alloc (.cells #[.slice (some ⟨b, 0, none⟩) zs.length cap] 39)) b zs := fun j hj => (hB0.cell (p := ⟨b, j, none⟩) hbw).trans (hc j hj)
  refine wpIn_rangeFunc_ownG hro hn1 (gf := 31) (lb := #[.pointer (some ⟨w.heap.size + 1 + 1, 0, none⟩)]) rfl h3 (enters_of Tryd.func31 (by kernel_rfl) rfl)
    (back_stops F (n - 1) h3 hro (by omega) (w.heap.size + 1 + 1) (w.heap.size + 1) b cap zs hlen _ (by omega) (by omega) bS.cell hcW) KeepC.trans KeepC.put (Below.refl _ _) (fun _ => rfl)
    (fun pre W => (W.cell? ⟨w.heap.size + 1, 0, none⟩ = some (.int .i64 (hor 1073741789 x ((pre.map Prod.snd).reverse.map (·.1)))) ∧ W.frozen? ⟨w.heap.size + 1, 0, none⟩ = false ∧ W.cell? ⟨w.heap.size, 0, none⟩ = some (.int .i64 x)) ∧ Below w.heap.size w W)
    (fun _ _ _ => False)
    (OwnFrom.and (Own.from (fun s A B row hs hg hr => ⟨cell_kept hs.1 hg hr, (frozen_kept hs.1 hg hr).trans hs.2.1, cell_kept hs.2.2 hg hr⟩) _) (ownFrom_below (Nat.le_refl _) (by simp; omega)))
    (fun _ _ _ _ _ hs _ _ => hs)
    ⟨⟨(bY.alloc _).cell, (bY.alloc _).frozen, ((bX.alloc _).alloc _).cell⟩, hB0⟩
    (fun c => { tmps := #[.slice (some ⟨b, 0, none⟩) zs.length cap, .int .i64 x, undef, .pointer (some ⟨w.heap.size, 0, none⟩), .int .i64 0, .pointer (some ⟨w.heap.size + 1, 0, none⟩), undef, .int .i64 c.2.1, .slice (some ⟨b, 0, none⟩) zs.length cap, .func (.func 31) #[] #[.pointer (some ⟨w.heap.size + 1 + 1, 0, none⟩)], .int .i64 (c.1 : Int), .int .i64 c.2.1, undef, undef, undef, undef, undef, undef, undef], defers := [] }) ?assign ?body ?done ?stop
  case assign =>
    intro l c W K hK
    gi_wp2
    exact hK
  case body =>
    rintro l pre ⟨ci, z, hz0, hz1⟩ W ⟨⟨c1, f1, c2⟩, hB⟩ _
    have hr := hor_range x ((pre.map Prod.snd).reverse.map (·.1))
    have hst : hor 1073741789 x (((pre ++ [(ci, (⟨z, hz0, hz1⟩ : FE))]).map Prod.snd).reverse.map (·.1)) = (hor 1073741789 x ((pre.map Prod.snd).reverse.map (·.1)) * x + z) % 1073741789 := by
      simp [hor]
    generalize hor 1073741789 x ((pre.map Prod.snd).reverse.map (·.1)) = Y at *
    have b1 : 0 ≤ Y * x := Int.mul_nonneg hr.1 hx
    have b2 : Y * x ≤ 1073741789 * 1000 := Int.mul_le_mul (by omega) hx2 hx (by decide)
    gi_wp2
    exact ⟨(KeepsOthers.setCell _ _ _).from _, KeepC.set _ 0 W _, ⟨by rw [hst]; exact World.cell?_setCell_same' _ _ _ (by rw [c1]; rfl), by rw [World.frozen?_setCell]; exact f1, by rw [World.cell?_setCell_far _ _ _ _ (show w.heap.size + 1 ≠ w.heap.size by omega)]; exact c2⟩, hB.setCell (p := ⟨w.heap.size + 1, 0, none⟩) (Nat.le_succ _) _⟩
  case done =>
    rintro D ys W hD hys ⟨⟨c1, f1, c2⟩, hB⟩ hK
    rw [hys, List.reverse_reverse] at c1
    obtain ⟨R, hR⟩ : ∃ R, hor 1073741789 x (zs.map (·.1)) = R := ⟨_, rfl⟩
    rw [hR] at c1
    gi_wp2
    refine ⟨by simp, .inl ⟨_, _, rfl, run_takeDeferred hK, ?_⟩⟩
    refine ⟨.int .i64 R, ?_, congrArg (fun r => Ending.returned (Value.int .i64 r)) hR.symm, hB.trans (belowK_b (w := w) (Nat.le_refl _) W D _ _ (by simp at hD; omega) hK rfl rfl)⟩
    simp [results, Tryd.results13, go_sem]
  case stop =>
    rintro D c pre W _ _ h _
    exact h.elim
theorem valueAt_any (b cap : Nat) (zs : List FE) (x : Int) (hlen : zs.length ≤ 1000) (w : World) (hc : IntsAt w b zs) (hbw : b < w.heap.size) (hx : 0 ≤ x) (hx2 : x ≤ 1000) :
    Calls Tryd.prog 13 #[.slice (some ⟨b, 0, none⟩) zs.length cap, .int .i64 x] w fun e W' => e = .returned (.int .i64 (hor 1073741789 x (zs.map (·.1)))) ∧ Below w.heap.size w W' :=
  (callsIn_wide (n := 3)).1 (valueAt_in _ 3 trivial trivial trivial rfl (by omega) b cap zs x hlen w hc hbw hx hx2)
end Go.Proofs.YtoakdagncfaplaaDoor.D
