/- YPl, YPm, one behind the other. -/
import Derived.Test.YteaidfighimoiaaGreatJ25
import Derived.Test.YteaidfighimoiaaGreatJ2
import Derived.Test.YteaidfighimoiaaGreatJ7
import Derived.Test.YteaidfighimoiaaGreatJ6
/- Heads and policies in the laws: sized, copied, held against themselves, read. -/
namespace Go.Proofs.YteaidfighimoiaaGreat.V
open Go.ChangeShapes Go.WideShapes Go.RowKit

set_option maxHeartbeats 1000000 in
theorem szHead_any (h : HeadT) (l : Int) (w : World) (h0 : 0 ≤ l) (h1 : l ≤ 1048576) (ho : h.Ok) :
    Calls Tryz.prog 9 #[hAgg h, .int .i64 l] w fun e w' => (∃ m : Int, -1 ≤ m ∧ m ≤ l ∧ e = .returned (.int .i64 m)) ∧ Below w.heap.size w w' := by
  have q := hide (fun l w h0 h1 => szAtom_any h.x h.n l h.t h.y w h0 h1 ho.t9 ho.y9)
  have sy := ho.ty9
  unfold maxLen at sy
  clear ho
  have R0 := hide (RowIs.new w #[.int .i64 h.k, .int .i64 h.x, .int .i64 h.n, .string h.t, .string h.y, .string h.ty] 25)
  go_enter Tryz.func9, Tryz.ntmps9
  go_wp2_with fail
  refine (unhide q _ _ (by omega) (by omega)).mono ?_
  rintro e w1 ⟨⟨m, hm1, hm2, rfl⟩, hb1⟩
  have c5 := ((unhide R0).keep hb1).at (o := 5) (v := .string h.ty) rfl
  have B := hide (bTr (bAl (Below.refl _ _) _) hb1)
  clear hb1 R0 q
  by_cases hm : m < 0
  · go_wp2_with fail
    go_ret
    exact ⟨⟨_, by omega, by omega, rfl⟩, unhide B⟩
  by_cases hm2 : m < (h.ty.size : Int)
  · have d : decide (m - (h.ty.size : Int) < 0) = true := by simp; omega
    go_wp2_with fail
    go_ret
    exact ⟨⟨_, by omega, by omega, rfl⟩, unhide B⟩
  · have d : decide (m - (h.ty.size : Int) < 0) = false := by simp; omega
    go_wp2_with fail
    go_ret
    exact ⟨⟨_, by omega, by omega, rfl⟩, unhide B⟩

set_option maxHeartbeats 1000000 in
theorem toHead_any (h : HeadT) (w : World) :
    Calls Tryz.prog 15 #[hAgg h] w fun e w' => e = .returned (hAgg h) ∧ Below w.heap.size w w' := by
  go_enter Tryz.func15, Tryz.ntmps15
  go_wp2_with fail
  refine (toAtom_any _ _ _ _ _).mono ?_
  rintro e w1 ⟨rfl, hb1⟩
  have bw := hide (bTr (bAl (bAl (bAl (Below.refl _ _) _) _) _) hb1)
  have ro := ((RowIs.new (w.alloc _) _ _).keep (bAl (Below.refl _ _) _)).keep hb1
  have out := (RowIs.new ((w.alloc _).alloc _) _ _).keep hb1
  have arg := hide (((RowIs.new w _ _).keep (bAl (bAl (Below.refl _ _) _) _)).keep hb1)
  simp only [World.size_alloc] at ro out
  clear hb1
  have k0 : w1.cell? ⟨w.heap.size + 1 + 1, 0, none⟩ = some (.int .i64 h.k) := out.at rfl
  have k1 : w1.cell? ⟨w.heap.size + 1 + 1, 1, none⟩ = some (.int .i64 0) := out.at rfl
  have k2 : w1.cell? ⟨w.heap.size + 1 + 1, 2, none⟩ = some (.int .i64 0) := out.at rfl
  have k3 : w1.cell? ⟨w.heap.size + 1 + 1, 3, none⟩ = some (.string ⟨#[]⟩) := out.at rfl
  have k4 : w1.cell? ⟨w.heap.size + 1 + 1, 4, none⟩ = some (.string ⟨#[]⟩) := out.at rfl
  have k5 : w1.cell? ⟨w.heap.size + 1 + 1, 5, none⟩ = some (.string ⟨#[]⟩) := out.at rfl
  have g1 := out.froz 1
  have g2 := out.froz 2
  have g3 := out.froz 3
  have g4 := out.froz 4
  have g5 := out.froz 5
  have j0 : w1.cell? ⟨w.heap.size + 1, 0, none⟩ = some (.int .i64 0) := ro.at rfl
  have f0 := ro.froz 0
  have j1 : w1.cell? ⟨w.heap.size + 1, 1, none⟩ = some (.int .i64 0) := ro.at rfl
  have f1 := ro.froz 1
  have j2 : w1.cell? ⟨w.heap.size + 1, 2, none⟩ = some (.int .i64 0) := ro.at rfl
  have f2 := ro.froz 2
  have j3 : w1.cell? ⟨w.heap.size + 1, 3, none⟩ = some (.string ⟨#[]⟩) := ro.at rfl
  have f3 := ro.froz 3
  have j4 : w1.cell? ⟨w.heap.size + 1, 4, none⟩ = some (.string ⟨#[]⟩) := ro.at rfl
  have f4 := ro.froz 4
  have j5 : w1.cell? ⟨w.heap.size + 1, 5, none⟩ = some (.string ⟨#[]⟩) := ro.at rfl
  have f5 := ro.froz 5
  have a5 : w1.cell? ⟨w.heap.size, 5, none⟩ = some (.string h.ty) := (unhide arg).at rfl
  clear out ro arg
  go_wp2_with fail
  refine bodyPost_ret (v := hAgg h) (by simp [results, Tryz.results15, go_sem, j0, j1, j2, j3, j4, j5]) rfl ⟨rfl, ?_⟩
  (repeat (refine Below.setCell ?_ (by simp; try omega) _))
  exact unhide bw

set_option maxHeartbeats 1000000 in
theorem eqHead_same (h : HeadT) (w : World) :
    Calls Tryz.prog 21 #[hAgg h, hAgg h] w fun e w' => e = .returned (.bool true) ∧ Below w.heap.size w w' := by
  go_enter Tryz.func21, Tryz.ntmps21
  go_wp2_with fail
  refine (eqAtom_same _ _ _ _ _).mono ?_
  rintro e w1 ⟨rfl, hb1⟩
  have x := (((RowIs.new w _ _).keep (bAl (Below.refl _ _) _)).keep hb1)
  have y := ((RowIs.new (w.alloc _) _ _).keep hb1)
  simp only [World.size_alloc] at x y
  have x5 : w1.cell? ⟨w.heap.size, 5, none⟩ = some (.string h.ty) := x.at rfl
  have y5 : w1.cell? ⟨w.heap.size + 1, 5, none⟩ = some (.string h.ty) := y.at rfl
  have HB := hide hb1
  clear x y hb1
  go_wp2_with fail
  go_ret
  exact ⟨rfl, bTr (bAl (bAl (Below.refl _ _) _) _) (unhide HB)⟩

set_option maxRecDepth 20000 in
set_option maxHeartbeats 2000000 in
theorem szPolicy_any (P : PolT) (a : Option Addr) (len cap : Nat) (left : Int) (w : World) (h0 : 0 ≤ left) (h1 : left ≤ 1048576) (ho : P.Ok) (hl : len ≤ maxLen) (hs : SlExpr w a len P.wh) :
    Calls Tryz.prog 4 #[polAgg P (.slice a len cap), .int .i64 left] w fun e w' => (∃ m : Int, -1 ≤ m ∧ m ≤ left ∧ (0 ≤ m → (len : Int) ≤ left ∧ Texts P.wh len left) ∧ e = .returned (.int .i64 m)) ∧ Below w.heap.size w w' := by
  have q1 := hide (fun l w h0 h1 => szHead_any P.p l w h0 h1 ho.p)
  have q2 := hide (fun l w h0 h1 => szHead_any P.a l w h0 h1 ho.a)
  have q3 := hide (fun l w h0 h1 => szHead_any P.r l w h0 h1 ho.r)
  have q4 := hide (fun l w h0 h1 hs => szExprS_any a len cap P.wh l w h0 h1 hl hs ho.wh)
  have HS := hide hs
  have si := ho.id9
  unfold maxLen at si
  have R := hide (RowIs.new w (polRow P (.slice a len cap)) 28)
  have B := hide (bAl (Below.refl w.heap.size w) (.cells (polRow P (.slice a len cap)) 28))
  clear hs ho hl
  by_cases g0 : left < (P.id.size : Int)
  · have d : decide (left - (P.id.size : Int) < 0) = true := by simp; omega
    clear R
    go_enter Tryz.func4, Tryz.ntmps4
    go_wp2_with fail
    go_ret
    exact ⟨⟨-1, by omega, by omega, by omega, rfl⟩, unhide B⟩
  have d : decide (left - (P.id.size : Int) < 0) = false := by simp; omega
  go_enter Tryz.func4, Tryz.ntmps4
  go_wp2_with fail
  refine (unhide q1 _ _ (by omega) (by omega)).mono ?_
  rintro e w1 ⟨⟨m1, x1, y1, rfl⟩, hb1⟩
  replace R := hide ((unhide R).keep hb1)
  replace B := hide (bTr (unhide B) hb1)
  clear hb1 
  by_cases e1 : m1 < 0
  · go_wp2_with fail
    go_ret
    exact ⟨⟨-1, by omega, by omega, by omega, rfl⟩, unhide B⟩
  have c8 := (unhide R).at (o := 8) (v := .int .i64 P.a.k) rfl
  have c9 := (unhide R).at (o := 9) (v := .int .i64 P.a.x) rfl
  have c10 := (unhide R).at (o := 10) (v := .int .i64 P.a.n) rfl
  have c11 := (unhide R).at (o := 11) (v := .string P.a.t) rfl
  have c12 := (unhide R).at (o := 12) (v := .string P.a.y) rfl
  have c13 := (unhide R).at (o := 13) (v := .string P.a.ty) rfl
  go_wp2_with fail
  refine (unhide q2 _ _ (by omega) (by omega)).mono ?_
  rintro e w2 ⟨⟨m2, x2, y2, rfl⟩, hb1⟩
  replace R := hide ((unhide R).keep hb1)
  replace B := hide (bTr (unhide B) hb1)
  clear hb1 c8 c9 c10 c11 c12 c13
  by_cases e2 : m2 < 0
  · go_wp2_with fail
    go_ret
    exact ⟨⟨-1, by omega, by omega, by omega, rfl⟩, unhide B⟩
  have c14 := (unhide R).at (o := 14) (v := .int .i64 P.r.k) rfl
  have c15 := (unhide R).at (o := 15) (v := .int .i64 P.r.x) rfl
  have c16 := (unhide R).at (o := 16) (v := .int .i64 P.r.n) rfl
  have c17 := (unhide R).at (o := 17) (v := .string P.r.t) rfl
  have c18 := (unhide R).at (o := 18) (v := .string P.r.y) rfl
  have c19 := (unhide R).at (o := 19) (v := .string P.r.ty) rfl
  go_wp2_with fail
  refine (unhide q3 _ _ (by omega) (by omega)).mono ?_
  rintro e w3 ⟨⟨m3, x3, y3, rfl⟩, hb1⟩
  replace R := hide ((unhide R).keep hb1)
  replace B := hide (bTr (unhide B) hb1)
  clear hb1 c14 c15 c16 c17 c18 c19
  by_cases e3 : m3 < 0
  · go_wp2_with fail
    go_ret
    exact ⟨⟨-1, by omega, by omega, by omega, rfl⟩, unhide B⟩
  have c20 := (unhide R).at (o := 20) (v := .slice a len cap) rfl
  go_wp2_with fail
  refine (unhide q4 _ _ (by omega) (by omega) ((unhide HS).keep (unhide B))).mono ?_
  rintro e w4 ⟨⟨m4, x4, y4, z4, rfl⟩, hb1⟩
  replace B := hide (bTr (unhide B) hb1)
  clear hb1 c20
  by_cases e4 : m4 < 0
  · go_wp2_with fail
    go_ret
    exact ⟨⟨-1, by omega, by omega, by omega, rfl⟩, unhide B⟩
  have ZT : Hid ((len : Int) ≤ left ∧ Texts P.wh len left) := hide ⟨by have := (z4 (by omega)).1; omega, fun i hi hk => by have := (z4 (by omega)).2 i hi hk; omega⟩
  clear z4
  go_wp2_with fail
  go_ret
  exact ⟨⟨m4, by omega, by omega, fun _ => unhide ZT, rfl⟩, unhide B⟩

end Go.Proofs.YteaidfighimoiaaGreat.V
/- toPolicy, eqPolicy; a policy that came in. -/
namespace Go.Proofs.YteaidfighimoiaaGreat.V
open Go.ChangeShapes Go.WideShapes Go.RowKit

theorem bRowY {B g : Nat} {w0 w : World} (hb : Below B w0 w) (hBg : B ≤ g) (cs : Array Value) : Below B w0 (w.setRow g cs) := ⟨hb.os, hb.tape, hb.output, by simpa using hb.size, fun b hb' => by rw [setRow_other _ _ _ _ (by omega)]; exact hb.block b hb'⟩
theorem size_scY (w : World) (a : Addr) (v : Value) : (w.setCell a v).heap.size = w.heap.size := by simp [World.setCell]
theorem ExprRow.setOther {w : World} {b off : Nat} {l : List ExprT} (hr : ExprRow w b off l) {b' o' : Nat} (v : Value) (h : b ≠ b') : ExprRow (w.setCell ⟨b', o', none⟩ v) b off l :=
  ⟨by simpa [World.setCell] using hr.z, fun i hi => by rw [cell_setOther v h]; exact hr.c0 i hi, fun i hi => by rw [cell_setOther v h]; exact hr.c1 i hi, fun i hi => by rw [cell_setOther v h]; exact hr.c2 i hi, fun i hi => by rw [cell_setOther v h]; exact hr.c3 i hi, fun i hi => by rw [cell_setOther v h]; exact hr.c4 i hi, fun i hi => by rw [cell_setOther v h]; exact hr.c5 i hi, fun i hi => by rw [cell_setOther v h]; exact hr.c6 i hi⟩
theorem ExprRow.keepX {w w1 : World} {b off : Nat} {l : List ExprT} (h : ExprRow w b off l) (hb : Below w.heap.size w w1) : ExprRow w1 b off l := h.keep hb

set_option maxRecDepth 40000 in
set_option maxHeartbeats 8000000 in
theorem toPolicy_any (P : PolT) (a : Option Addr) (len cap : Nat) (w : World) (hl : len ≤ 1048576) (hs : SlExpr w a len P.wh) :
    Calls Tryz.prog 6 #[polAgg P (.slice a len cap)] w fun e w' => ∃ b, e = .returned (polAgg P (.slice (some ⟨b, 0, none⟩) len len)) ∧ w.heap.size ≤ b ∧ (∃ C, RowIs w' b C 44 ∧ C.size = len * 7 ∧ ExprRow w' b 0 P.wh) ∧ Below w.heap.size w w' := by
  have q := hide (fun w hs => toExprS_own a len cap P.wh w hl hs)
  have HS := hide hs
  clear hs hl
  obtain ⟨W0, hW0⟩ : ∃ W, W = ((w.alloc (.cells #[.string P.id, .bool P.pm, .int .i64 P.p.k, .int .i64 P.p.x, .int .i64 P.p.n, .string P.p.t, .string P.p.y, .string P.p.ty, .int .i64 P.a.k, .int .i64 P.a.x, .int .i64 P.a.n, .string P.a.t, .string P.a.y, .string P.a.ty, .int .i64 P.r.k, .int .i64 P.r.x, .int .i64 P.r.n, .string P.r.t, .string P.r.y, .string P.r.ty, .slice a len cap] 28)).alloc (.cells #[.string ⟨#[]⟩, .bool false, .int .i64 0, .int .i64 0, .int .i64 0, .string ⟨#[]⟩, .string ⟨#[]⟩, .string ⟨#[]⟩, .int .i64 0, .int .i64 0, .int .i64 0, .string ⟨#[]⟩, .string ⟨#[]⟩, .string ⟨#[]⟩, .int .i64 0, .int .i64 0, .int .i64 0, .string ⟨#[]⟩, .string ⟨#[]⟩, .string ⟨#[]⟩, .slice none 0 0] 36)).alloc (.cells #[.string P.id, .bool P.pm, .int .i64 0, .int .i64 0, .int .i64 0, .string ⟨#[]⟩, .string ⟨#[]⟩, .string ⟨#[]⟩, .int .i64 0, .int .i64 0, .int .i64 0, .string ⟨#[]⟩, .string ⟨#[]⟩, .string ⟨#[]⟩, .int .i64 0, .int .i64 0, .int .i64 0, .string ⟨#[]⟩, .string ⟨#[]⟩, .string ⟨#[]⟩, .slice none 0 0] 36) := ⟨_, rfl⟩
  have z0 : W0.heap.size = w.heap.size + 1 + 1 + 1 := by rw [hW0]; simp
  have b0 : Below w.heap.size w W0 := by rw [hW0]; exact bAl (bAl (bAl (Below.refl _ _) _) _) _
  have A0 : RowIs W0 w.heap.size #[.string P.id, .bool P.pm, .int .i64 P.p.k, .int .i64 P.p.x, .int .i64 P.p.n, .string P.p.t, .string P.p.y, .string P.p.ty, .int .i64 P.a.k, .int .i64 P.a.x, .int .i64 P.a.n, .string P.a.t, .string P.a.y, .string P.a.ty, .int .i64 P.r.k, .int .i64 P.r.x, .int .i64 P.r.n, .string P.r.t, .string P.r.y, .string P.r.ty, .slice a len cap] 28 := by rw [hW0]; exact ((RowIs.new w _ _).keep (bAl (Below.refl _ _) _)).keep (bAl (Below.refl _ _) _)
  have Z0 : RowIs W0 (w.heap.size + 1) #[.string ⟨#[]⟩, .bool false, .int .i64 0, .int .i64 0, .int .i64 0, .string ⟨#[]⟩, .string ⟨#[]⟩, .string ⟨#[]⟩, .int .i64 0, .int .i64 0, .int .i64 0, .string ⟨#[]⟩, .string ⟨#[]⟩, .string ⟨#[]⟩, .int .i64 0, .int .i64 0, .int .i64 0, .string ⟨#[]⟩, .string ⟨#[]⟩, .string ⟨#[]⟩, .slice none 0 0] 36 := by
    rw [hW0]
    have := (RowIs.new (w.alloc (.cells #[.string P.id, .bool P.pm, .int .i64 P.p.k, .int .i64 P.p.x, .int .i64 P.p.n, .string P.p.t, .string P.p.y, .string P.p.ty, .int .i64 P.a.k, .int .i64 P.a.x, .int .i64 P.a.n, .string P.a.t, .string P.a.y, .string P.a.ty, .int .i64 P.r.k, .int .i64 P.r.x, .int .i64 P.r.n, .string P.r.t, .string P.r.y, .string P.r.ty, .slice a len cap] 28)) #[.string ⟨#[]⟩, .bool false, .int .i64 0, .int .i64 0, .int .i64 0, .string ⟨#[]⟩, .string ⟨#[]⟩, .string ⟨#[]⟩, .int .i64 0, .int .i64 0, .int .i64 0, .string ⟨#[]⟩, .string ⟨#[]⟩, .string ⟨#[]⟩, .int .i64 0, .int .i64 0, .int .i64 0, .string ⟨#[]⟩, .string ⟨#[]⟩, .string ⟨#[]⟩, .slice none 0 0] 36).keep (bAl (Below.refl _ _) (.cells #[.string P.id, .bool P.pm, .int .i64 0, .int .i64 0, .int .i64 0, .string ⟨#[]⟩, .string ⟨#[]⟩, .string ⟨#[]⟩, .int .i64 0, .int .i64 0, .int .i64 0, .string ⟨#[]⟩, .string ⟨#[]⟩, .string ⟨#[]⟩, .int .i64 0, .int .i64 0, .int .i64 0, .string ⟨#[]⟩, .string ⟨#[]⟩, .string ⟨#[]⟩, .slice none 0 0] 36))
    simpa using this
  have O0 : RowIs W0 (w.heap.size + 1 + 1) #[.string P.id, .bool P.pm, .int .i64 0, .int .i64 0, .int .i64 0, .string ⟨#[]⟩, .string ⟨#[]⟩, .string ⟨#[]⟩, .int .i64 0, .int .i64 0, .int .i64 0, .string ⟨#[]⟩, .string ⟨#[]⟩, .string ⟨#[]⟩, .int .i64 0, .int .i64 0, .int .i64 0, .string ⟨#[]⟩, .string ⟨#[]⟩, .string ⟨#[]⟩, .slice none 0 0] 36 := by
    rw [hW0]
    have := RowIs.new ((w.alloc (.cells #[.string P.id, .bool P.pm, .int .i64 P.p.k, .int .i64 P.p.x, .int .i64 P.p.n, .string P.p.t, .string P.p.y, .string P.p.ty, .int .i64 P.a.k, .int .i64 P.a.x, .int .i64 P.a.n, .string P.a.t, .string P.a.y, .string P.a.ty, .int .i64 P.r.k, .int .i64 P.r.x, .int .i64 P.r.n, .string P.r.t, .string P.r.y, .string P.r.ty, .slice a len cap] 28)).alloc (.cells #[.string ⟨#[]⟩, .bool false, .int .i64 0, .int .i64 0, .int .i64 0, .string ⟨#[]⟩, .string ⟨#[]⟩, .string ⟨#[]⟩, .int .i64 0, .int .i64 0, .int .i64 0, .string ⟨#[]⟩, .string ⟨#[]⟩, .string ⟨#[]⟩, .int .i64 0, .int .i64 0, .int .i64 0, .string ⟨#[]⟩, .string ⟨#[]⟩, .string ⟨#[]⟩, .slice none 0 0] 36)) #[.string P.id, .bool P.pm, .int .i64 0, .int .i64 0, .int .i64 0, .string ⟨#[]⟩, .string ⟨#[]⟩, .string ⟨#[]⟩, .int .i64 0, .int .i64 0, .int .i64 0, .string ⟨#[]⟩, .string ⟨#[]⟩, .string ⟨#[]⟩, .int .i64 0, .int .i64 0, .int .i64 0, .string ⟨#[]⟩, .string ⟨#[]⟩, .string ⟨#[]⟩, .slice none 0 0] 36
    simpa using this
  have HW := hide hW0
  have hne1 : w.heap.size ≠ w.heap.size + 1 + 1 := by omega
  have hne2 : w.heap.size + 1 ≠ w.heap.size + 1 + 1 := by omega
  clear hW0
  go_enter Tryz.func6, Tryz.ntmps6
  go_wp2_with fail
  rw [← unhide HW]
  clear HW
  refine (toHead_any P.p _).mono ?_
  rintro e w1 ⟨rfl, hb1⟩
  have O1 : Hid (RowIs w1 (w.heap.size + 1 + 1) #[.string P.id, .bool P.pm, .int .i64 0, .int .i64 0, .int .i64 0, .string ⟨#[]⟩, .string ⟨#[]⟩, .string ⟨#[]⟩, .int .i64 0, .int .i64 0, .int .i64 0, .string ⟨#[]⟩, .string ⟨#[]⟩, .string ⟨#[]⟩, .int .i64 0, .int .i64 0, .int .i64 0, .string ⟨#[]⟩, .string ⟨#[]⟩, .string ⟨#[]⟩, .slice none 0 0] 36) := hide (by have h := O0.keep hb1; exact h)
  have Z1 : Hid (RowIs w1 (w.heap.size + 1) #[.string ⟨#[]⟩, .bool false, .int .i64 0, .int .i64 0, .int .i64 0, .string ⟨#[]⟩, .string ⟨#[]⟩, .string ⟨#[]⟩, .int .i64 0, .int .i64 0, .int .i64 0, .string ⟨#[]⟩, .string ⟨#[]⟩, .string ⟨#[]⟩, .int .i64 0, .int .i64 0, .int .i64 0, .string ⟨#[]⟩, .string ⟨#[]⟩, .string ⟨#[]⟩, .slice none 0 0] 36) := hide (Z0.keep hb1)
  have A1 : Hid (RowIs w1 w.heap.size #[.string P.id, .bool P.pm, .int .i64 P.p.k, .int .i64 P.p.x, .int .i64 P.p.n, .string P.p.t, .string P.p.y, .string P.p.ty, .int .i64 P.a.k, .int .i64 P.a.x, .int .i64 P.a.n, .string P.a.t, .string P.a.y, .string P.a.ty, .int .i64 P.r.k, .int .i64 P.r.x, .int .i64 P.r.n, .string P.r.t, .string P.r.y, .string P.r.ty, .slice a len cap] 28) := hide (A0.keep hb1)
  have B1 : Hid (Below w.heap.size w w1) := hide (bTr b0 hb1)
  clear hb1 O0 Z0 A0 b0
  have c8 := (unhide A1).at (o := 8) (v := .int .i64 P.a.k) rfl
  have c9 := (unhide A1).at (o := 9) (v := .int .i64 P.a.x) rfl
  have c10 := (unhide A1).at (o := 10) (v := .int .i64 P.a.n) rfl
  have c11 := (unhide A1).at (o := 11) (v := .string P.a.t) rfl
  have c12 := (unhide A1).at (o := 12) (v := .string P.a.y) rfl
  have c13 := (unhide A1).at (o := 13) (v := .string P.a.ty) rfl
  have k2 := (unhide O1).at (o := 2) (v := .int .i64 0) rfl
  have g2 := (unhide O1).froz 2
  have k3 := (unhide O1).at (o := 3) (v := .int .i64 0) rfl
  have g3 := (unhide O1).froz 3
  have k4 := (unhide O1).at (o := 4) (v := .int .i64 0) rfl
  have g4 := (unhide O1).froz 4
  have k5 := (unhide O1).at (o := 5) (v := .string ⟨#[]⟩) rfl
  have g5 := (unhide O1).froz 5
  have k6 := (unhide O1).at (o := 6) (v := .string ⟨#[]⟩) rfl
  have g6 := (unhide O1).froz 6
  have k7 := (unhide O1).at (o := 7) (v := .string ⟨#[]⟩) rfl
  have g7 := (unhide O1).froz 7
  go_wp2_with fail
  refine (toHead_any P.a _).mono ?_
  rintro e w2 ⟨rfl, hb2⟩
  have O2 : Hid (RowIs w2 (w.heap.size + 1 + 1) #[.string P.id, .bool P.pm, .int .i64 P.p.k, .int .i64 P.p.x, .int .i64 P.p.n, .string P.p.t, .string P.p.y, .string P.p.ty, .int .i64 0, .int .i64 0, .int .i64 0, .string ⟨#[]⟩, .string ⟨#[]⟩, .string ⟨#[]⟩, .int .i64 0, .int .i64 0, .int .i64 0, .string ⟨#[]⟩, .string ⟨#[]⟩, .string ⟨#[]⟩, .slice none 0 0] 36) := hide (by have h := (((((((unhide O1).set 2 (.int .i64 P.p.k)).set 3 (.int .i64 P.p.x)).set 4 (.int .i64 P.p.n)).set 5 (.string P.p.t)).set 6 (.string P.p.y)).set 7 (.string P.p.ty)).keep hb2; simp only [List.setIfInBounds_toArray, List.set_cons_zero, List.set_cons_succ] at h; exact h)
  have Z2 : Hid (RowIs w2 (w.heap.size + 1) #[.string ⟨#[]⟩, .bool false, .int .i64 0, .int .i64 0, .int .i64 0, .string ⟨#[]⟩, .string ⟨#[]⟩, .string ⟨#[]⟩, .int .i64 0, .int .i64 0, .int .i64 0, .string ⟨#[]⟩, .string ⟨#[]⟩, .string ⟨#[]⟩, .int .i64 0, .int .i64 0, .int .i64 0, .string ⟨#[]⟩, .string ⟨#[]⟩, .string ⟨#[]⟩, .slice none 0 0] 36) := hide ((((((((unhide Z1).setOther (o' := 2) (.int .i64 P.p.k) hne2).setOther (o' := 3) (.int .i64 P.p.x) hne2).setOther (o' := 4) (.int .i64 P.p.n) hne2).setOther (o' := 5) (.string P.p.t) hne2).setOther (o' := 6) (.string P.p.y) hne2).setOther (o' := 7) (.string P.p.ty) hne2).keep hb2)
  have A2 : Hid (RowIs w2 w.heap.size #[.string P.id, .bool P.pm, .int .i64 P.p.k, .int .i64 P.p.x, .int .i64 P.p.n, .string P.p.t, .string P.p.y, .string P.p.ty, .int .i64 P.a.k, .int .i64 P.a.x, .int .i64 P.a.n, .string P.a.t, .string P.a.y, .string P.a.ty, .int .i64 P.r.k, .int .i64 P.r.x, .int .i64 P.r.n, .string P.r.t, .string P.r.y, .string P.r.ty, .slice a len cap] 28) := hide ((((((((unhide A1).setOther (o' := 2) (.int .i64 P.p.k) hne1).setOther (o' := 3) (.int .i64 P.p.x) hne1).setOther (o' := 4) (.int .i64 P.p.n) hne1).setOther (o' := 5) (.string P.p.t) hne1).setOther (o' := 6) (.string P.p.y) hne1).setOther (o' := 7) (.string P.p.ty) hne1).keep hb2)
  have B2 : Hid (Below w.heap.size w w2) := hide (bTr (below_set (b := w.heap.size + 1 + 1) (o := 7) (v := .string P.p.ty) (below_set (b := w.heap.size + 1 + 1) (o := 6) (v := .string P.p.y) (below_set (b := w.heap.size + 1 + 1) (o := 5) (v := .string P.p.t) (below_set (b := w.heap.size + 1 + 1) (o := 4) (v := .int .i64 P.p.n) (below_set (b := w.heap.size + 1 + 1) (o := 3) (v := .int .i64 P.p.x) (below_set (b := w.heap.size + 1 + 1) (o := 2) (v := .int .i64 P.p.k) (unhide B1) (by omega)) (by omega)) (by omega)) (by omega)) (by omega)) (by omega)) hb2)
  clear hb2 O1 Z1 A1 B1 c8 c9 c10 c11 c12 c13 k2 g2 k3 g3 k4 g4 k5 g5 k6 g6 k7 g7
  have c14 := (unhide A2).at (o := 14) (v := .int .i64 P.r.k) rfl
  have c15 := (unhide A2).at (o := 15) (v := .int .i64 P.r.x) rfl
  have c16 := (unhide A2).at (o := 16) (v := .int .i64 P.r.n) rfl
  have c17 := (unhide A2).at (o := 17) (v := .string P.r.t) rfl
  have c18 := (unhide A2).at (o := 18) (v := .string P.r.y) rfl
  have c19 := (unhide A2).at (o := 19) (v := .string P.r.ty) rfl
  have k8 := (unhide O2).at (o := 8) (v := .int .i64 0) rfl
  have g8 := (unhide O2).froz 8
  have k9 := (unhide O2).at (o := 9) (v := .int .i64 0) rfl
  have g9 := (unhide O2).froz 9
  have k10 := (unhide O2).at (o := 10) (v := .int .i64 0) rfl
  have g10 := (unhide O2).froz 10
  have k11 := (unhide O2).at (o := 11) (v := .string ⟨#[]⟩) rfl
  have g11 := (unhide O2).froz 11
  have k12 := (unhide O2).at (o := 12) (v := .string ⟨#[]⟩) rfl
  have g12 := (unhide O2).froz 12
  have k13 := (unhide O2).at (o := 13) (v := .string ⟨#[]⟩) rfl
  have g13 := (unhide O2).froz 13
  go_wp2_with fail
  refine (toHead_any P.r _).mono ?_
  rintro e w3 ⟨rfl, hb3⟩
  have O3 : Hid (RowIs w3 (w.heap.size + 1 + 1) #[.string P.id, .bool P.pm, .int .i64 P.p.k, .int .i64 P.p.x, .int .i64 P.p.n, .string P.p.t, .string P.p.y, .string P.p.ty, .int .i64 P.a.k, .int .i64 P.a.x, .int .i64 P.a.n, .string P.a.t, .string P.a.y, .string P.a.ty, .int .i64 0, .int .i64 0, .int .i64 0, .string ⟨#[]⟩, .string ⟨#[]⟩, .string ⟨#[]⟩, .slice none 0 0] 36) := hide (by have h := (((((((unhide O2).set 8 (.int .i64 P.a.k)).set 9 (.int .i64 P.a.x)).set 10 (.int .i64 P.a.n)).set 11 (.string P.a.t)).set 12 (.string P.a.y)).set 13 (.string P.a.ty)).keep hb3; simp only [List.setIfInBounds_toArray, List.set_cons_zero, List.set_cons_succ] at h; exact h)
  have Z3 : Hid (RowIs w3 (w.heap.size + 1) #[.string ⟨#[]⟩, .bool false, .int .i64 0, .int .i64 0, .int .i64 0, .string ⟨#[]⟩, .string ⟨#[]⟩, .string ⟨#[]⟩, .int .i64 0, .int .i64 0, .int .i64 0, .string ⟨#[]⟩, .string ⟨#[]⟩, .string ⟨#[]⟩, .int .i64 0, .int .i64 0, .int .i64 0, .string ⟨#[]⟩, .string ⟨#[]⟩, .string ⟨#[]⟩, .slice none 0 0] 36) := hide ((((((((unhide Z2).setOther (o' := 8) (.int .i64 P.a.k) hne2).setOther (o' := 9) (.int .i64 P.a.x) hne2).setOther (o' := 10) (.int .i64 P.a.n) hne2).setOther (o' := 11) (.string P.a.t) hne2).setOther (o' := 12) (.string P.a.y) hne2).setOther (o' := 13) (.string P.a.ty) hne2).keep hb3)
  have A3 : Hid (RowIs w3 w.heap.size #[.string P.id, .bool P.pm, .int .i64 P.p.k, .int .i64 P.p.x, .int .i64 P.p.n, .string P.p.t, .string P.p.y, .string P.p.ty, .int .i64 P.a.k, .int .i64 P.a.x, .int .i64 P.a.n, .string P.a.t, .string P.a.y, .string P.a.ty, .int .i64 P.r.k, .int .i64 P.r.x, .int .i64 P.r.n, .string P.r.t, .string P.r.y, .string P.r.ty, .slice a len cap] 28) := hide ((((((((unhide A2).setOther (o' := 8) (.int .i64 P.a.k) hne1).setOther (o' := 9) (.int .i64 P.a.x) hne1).setOther (o' := 10) (.int .i64 P.a.n) hne1).setOther (o' := 11) (.string P.a.t) hne1).setOther (o' := 12) (.string P.a.y) hne1).setOther (o' := 13) (.string P.a.ty) hne1).keep hb3)
  have B3 : Hid (Below w.heap.size w w3) := hide (bTr (below_set (b := w.heap.size + 1 + 1) (o := 13) (v := .string P.a.ty) (below_set (b := w.heap.size + 1 + 1) (o := 12) (v := .string P.a.y) (below_set (b := w.heap.size + 1 + 1) (o := 11) (v := .string P.a.t) (below_set (b := w.heap.size + 1 + 1) (o := 10) (v := .int .i64 P.a.n) (below_set (b := w.heap.size + 1 + 1) (o := 9) (v := .int .i64 P.a.x) (below_set (b := w.heap.size + 1 + 1) (o := 8) (v := .int .i64 P.a.k) (unhide B2) (by omega)) (by omega)) (by omega)) (by omega)) (by omega)) (by omega)) hb3)
  clear hb3 O2 Z2 A2 B2 c14 c15 c16 c17 c18 c19 k8 g8 k9 g9 k10 g10 k11 g11 k12 g12 k13 g13
  have c20 := (unhide A3).at (o := 20) (v := .slice a len cap) rfl
  have k14 := (unhide O3).at (o := 14) (v := .int .i64 0) rfl
  have g14 := (unhide O3).froz 14
  have k15 := (unhide O3).at (o := 15) (v := .int .i64 0) rfl
  have g15 := (unhide O3).froz 15
  have k16 := (unhide O3).at (o := 16) (v := .int .i64 0) rfl
  have g16 := (unhide O3).froz 16
  have k17 := (unhide O3).at (o := 17) (v := .string ⟨#[]⟩) rfl
  have g17 := (unhide O3).froz 17
  have k18 := (unhide O3).at (o := 18) (v := .string ⟨#[]⟩) rfl
  have g18 := (unhide O3).froz 18
  have k19 := (unhide O3).at (o := 19) (v := .string ⟨#[]⟩) rfl
  have g19 := (unhide O3).froz 19
  go_wp2_with fail
  have b4 := (below_set (b := w.heap.size + 1 + 1) (o := 19) (v := .string P.r.ty) (below_set (b := w.heap.size + 1 + 1) (o := 18) (v := .string P.r.y) (below_set (b := w.heap.size + 1 + 1) (o := 17) (v := .string P.r.t) (below_set (b := w.heap.size + 1 + 1) (o := 16) (v := .int .i64 P.r.n) (below_set (b := w.heap.size + 1 + 1) (o := 15) (v := .int .i64 P.r.x) (below_set (b := w.heap.size + 1 + 1) (o := 14) (v := .int .i64 P.r.k) (unhide B3) (by omega)) (by omega)) (by omega)) (by omega)) (by omega)) (by omega))
  refine (unhide q _ ((unhide HS).keep b4)).mono ?_
  rintro e w4 ⟨rfl, ⟨C, hC, hsz, hrow⟩, hb4⟩
  have O4 : RowIs w4 (w.heap.size + 1 + 1) #[.string P.id, .bool P.pm, .int .i64 P.p.k, .int .i64 P.p.x, .int .i64 P.p.n, .string P.p.t, .string P.p.y, .string P.p.ty, .int .i64 P.a.k, .int .i64 P.a.x, .int .i64 P.a.n, .string P.a.t, .string P.a.y, .string P.a.ty, .int .i64 P.r.k, .int .i64 P.r.x, .int .i64 P.r.n, .string P.r.t, .string P.r.y, .string P.r.ty, .slice none 0 0] 36 := by have h := (((((((unhide O3).set 14 (.int .i64 P.r.k)).set 15 (.int .i64 P.r.x)).set 16 (.int .i64 P.r.n)).set 17 (.string P.r.t)).set 18 (.string P.r.y)).set 19 (.string P.r.ty)).keep hb4; simp only [List.setIfInBounds_toArray, List.set_cons_zero, List.set_cons_succ] at h; exact h
  have Z4 : RowIs w4 (w.heap.size + 1) #[.string ⟨#[]⟩, .bool false, .int .i64 0, .int .i64 0, .int .i64 0, .string ⟨#[]⟩, .string ⟨#[]⟩, .string ⟨#[]⟩, .int .i64 0, .int .i64 0, .int .i64 0, .string ⟨#[]⟩, .string ⟨#[]⟩, .string ⟨#[]⟩, .int .i64 0, .int .i64 0, .int .i64 0, .string ⟨#[]⟩, .string ⟨#[]⟩, .string ⟨#[]⟩, .slice none 0 0] 36 := (((((((unhide Z3).setOther (o' := 14) (.int .i64 P.r.k) hne2).setOther (o' := 15) (.int .i64 P.r.x) hne2).setOther (o' := 16) (.int .i64 P.r.n) hne2).setOther (o' := 17) (.string P.r.t) hne2).setOther (o' := 18) (.string P.r.y) hne2).setOther (o' := 19) (.string P.r.ty) hne2).keep hb4
  have B4 := hide (bTr b4 hb4)
  have zo := (unhide O3).lt
  obtain ⟨bx, hbx⟩ : ∃ bx, bx = w3.heap.size := ⟨_, rfl⟩
  have ez : ((((((w3.setCell ⟨w.heap.size + 1 + 1, 14, none⟩ (.int .i64 P.r.k)).setCell ⟨w.heap.size + 1 + 1, 15, none⟩ (.int .i64 P.r.x)).setCell ⟨w.heap.size + 1 + 1, 16, none⟩ (.int .i64 P.r.n)).setCell ⟨w.heap.size + 1 + 1, 17, none⟩ (.string P.r.t)).setCell ⟨w.heap.size + 1 + 1, 18, none⟩ (.string P.r.y)).setCell ⟨w.heap.size + 1 + 1, 19, none⟩ (.string P.r.ty)).heap.size = w3.heap.size := by simp only [size_scY]
  rw [ez, ← hbx] at hC hrow ⊢
  rw [← hbx] at zo
  have nb1 : bx ≠ w.heap.size + 1 + 1 := by omega
  have nb2 : bx ≠ w.heap.size + 1 := by omega
  have nb3 : w.heap.size ≤ bx := by omega
  have HC := hide hC
  have HZ := hide hsz
  have HR := hide hrow
  clear hb4 b4 O3 Z3 A3 B3 hC hsz hrow ez hbx c20 k14 g14 k15 g15 k16 g16 k17 g17 k18 g18 k19 g19
  have k20 := O4.at (o := 20) (v := .slice none 0 0) rfl
  have g20 := O4.froz 20
  obtain ⟨W5, hW5⟩ : ∃ W, W = w4.setCell ⟨w.heap.size + 1 + 1, 20, none⟩ (.slice (some ⟨bx, 0, none⟩) len len) := ⟨_, rfl⟩
  have O5 : Hid (RowIs W5 (w.heap.size + 1 + 1) #[.string P.id, .bool P.pm, .int .i64 P.p.k, .int .i64 P.p.x, .int .i64 P.p.n, .string P.p.t, .string P.p.y, .string P.p.ty, .int .i64 P.a.k, .int .i64 P.a.x, .int .i64 P.a.n, .string P.a.t, .string P.a.y, .string P.a.ty, .int .i64 P.r.k, .int .i64 P.r.x, .int .i64 P.r.n, .string P.r.t, .string P.r.y, .string P.r.ty, .slice (some ⟨bx, 0, none⟩) len len] 36) := hide (by have h := O4.set 20 (.slice (some ⟨bx, 0, none⟩) len len); simp only [List.setIfInBounds_toArray, List.set_cons_zero, List.set_cons_succ] at h; rw [hW5]; exact h)
  have Z5 : Hid (RowIs W5 (w.heap.size + 1) #[.string ⟨#[]⟩, .bool false, .int .i64 0, .int .i64 0, .int .i64 0, .string ⟨#[]⟩, .string ⟨#[]⟩, .string ⟨#[]⟩, .int .i64 0, .int .i64 0, .int .i64 0, .string ⟨#[]⟩, .string ⟨#[]⟩, .string ⟨#[]⟩, .int .i64 0, .int .i64 0, .int .i64 0, .string ⟨#[]⟩, .string ⟨#[]⟩, .string ⟨#[]⟩, .slice none 0 0] 36) := hide (by rw [hW5]; exact Z4.setOther _ hne2)
  have C5 : Hid (RowIs W5 bx C 44) := hide (by rw [hW5]; exact (unhide HC).setOther _ nb1)
  have R5 : Hid (ExprRow W5 bx 0 P.wh) := hide (by rw [hW5]; exact (unhide HR).setOther _ nb1)
  have B5 : Hid (Below w.heap.size w W5) := hide (by rw [hW5]; exact below_set (unhide B4) (by omega))
  have HW5 := hide hW5.symm
  clear O4 Z4 HC HR B4 hW5
  go_upto_region 8 with fail
  rw [unhide HW5]
  clear HW5 k20 g20
  go_step
  refine wpList_load_row rfl 36 _ rfl (w.heap.size + 1 + 1) rfl 36 _ (0, 0) _ (unhide O5) Tryz.underlying36 rfl (by kernel_rfl) ?_
  refine wpList_store_row rfl 36 _ _ rfl (w.heap.size + 1) #[.string P.id, .bool P.pm, .int .i64 P.p.k, .int .i64 P.p.x, .int .i64 P.p.n, .string P.p.t, .string P.p.y, .string P.p.ty, .int .i64 P.a.k, .int .i64 P.a.x, .int .i64 P.a.n, .string P.a.t, .string P.a.y, .string P.a.ty, .int .i64 P.r.k, .int .i64 P.r.x, .int .i64 P.r.n, .string P.r.t, .string P.r.y, .string P.r.ty, .slice (some ⟨bx, 0, none⟩) len len] rfl rfl 36 _ (unhide Z5) (by kernel_rfl) rfl (by simp [Value.oneCell']) ?_
  have Z6 := hide (setRow_heap W5 (w.heap.size + 1) _ #[.string P.id, .bool P.pm, .int .i64 P.p.k, .int .i64 P.p.x, .int .i64 P.p.n, .string P.p.t, .string P.p.y, .string P.p.ty, .int .i64 P.a.k, .int .i64 P.a.x, .int .i64 P.a.n, .string P.a.t, .string P.a.y, .string P.a.ty, .int .i64 P.r.k, .int .i64 P.r.x, .int .i64 P.r.n, .string P.r.t, .string P.r.y, .string P.r.ty, .slice (some ⟨bx, 0, none⟩) len len] _ _ (unhide Z5))
  go_wp2_with fail
  refine bodyPost_ret (v := polAgg P (.slice (some ⟨bx, 0, none⟩) len len)) (results_cell_row rfl _ _ (w.heap.size + 1) 36 _ (0, 0) _ rfl (unhide Z6) Tryz.underlying36 rfl (by kernel_rfl)) rfl ⟨bx, rfl, nb3, ⟨C, ?_, unhide HZ, ?_⟩, bRowY (unhide B5) (by omega) _⟩
  · show _ = _
    rw [setRow_other _ _ _ _ nb2]
    exact unhide C5
  · exact ⟨by simpa using (unhide R5).z, fun i hi => by rw [cell_setRow_other _ _ _ _ nb2]; exact (unhide R5).c0 i hi, fun i hi => by rw [cell_setRow_other _ _ _ _ nb2]; exact (unhide R5).c1 i hi, fun i hi => by rw [cell_setRow_other _ _ _ _ nb2]; exact (unhide R5).c2 i hi, fun i hi => by rw [cell_setRow_other _ _ _ _ nb2]; exact (unhide R5).c3 i hi, fun i hi => by rw [cell_setRow_other _ _ _ _ nb2]; exact (unhide R5).c4 i hi, fun i hi => by rw [cell_setRow_other _ _ _ _ nb2]; exact (unhide R5).c5 i hi, fun i hi => by rw [cell_setRow_other _ _ _ _ nb2]; exact (unhide R5).c6 i hi⟩

end Go.Proofs.YteaidfighimoiaaGreat.V
