/- Heads and policies in the laws: sized, copied, held against themselves, read. -/
import Derived.Test.YtbgakkbniekccaaYPo
import Derived.Test.YtbgakkbniekccaaWRead
import Derived.Test.YtbgakkbniekccaaWEq
import Derived.Test.YtbgakkbniekccaaWSli
namespace Go.Proofs.Ytbgakkbniekccaa.V
open Go.ChangeShapes Go.WideShapes Go.RowKit

set_option maxHeartbeats 1000000 in
theorem szHead_any (h : HeadT) (l : Int) (w : World) (h0 : 0 ≤ l) (h1 : l ≤ 1048576) (ho : h.Ok) :
    Calls Try.prog 27 #[hAgg h, .int .i64 l] w fun e w' => (∃ m : Int, -1 ≤ m ∧ m ≤ l ∧ e = .returned (.int .i64 m)) ∧ Below w.heap.size w w' := by
  have q := hide (fun l w h0 h1 => szAtom_any h.x h.n l h.t h.y w h0 h1 ho.t9 ho.y9)
  have sy := ho.ty9
  unfold maxLen at sy
  clear ho
  have R0 := hide (RowIs.new w #[.int .i64 h.k, .int .i64 h.x, .int .i64 h.n, .string h.t, .string h.y, .string h.ty] 32)
  go_enter Try.func27, Try.ntmps27
  go_wp2_with fail
  refine (unhide q _ _ (by omega) (by omega)).mono ?_
  rintro e w1 ⟨⟨m, hm1, hm2, rfl⟩, hb1⟩
  have c5 := ((unhide R0).keep hb1).at (o := 5) (v := .string h.ty) rfl
  have B := hide (bTr (bAl (Below.refl _ _) _) hb1)
  clear hb1 R0 q
  by_cases hm : m < 0
  · go_wp2_with fail
    go_ret
    exact ⟨⟨_, by omega, by omega, rfl⟩, unhide B⟩
  by_cases hm2 : m < (h.ty.size : Int)
  · have d : decide (m - (h.ty.size : Int) < 0) = true := by simp; omega
    go_wp2_with fail
    go_ret
    exact ⟨⟨_, by omega, by omega, rfl⟩, unhide B⟩
  · have d : decide (m - (h.ty.size : Int) < 0) = false := by simp; omega
    go_wp2_with fail
    go_ret
    exact ⟨⟨_, by omega, by omega, rfl⟩, unhide B⟩

set_option maxHeartbeats 1000000 in
theorem toHead_any (h : HeadT) (w : World) :
    Calls Try.prog 30 #[hAgg h] w fun e w' => e = .returned (hAgg h) ∧ Below w.heap.size w w' := by
  go_enter Try.func30, Try.ntmps30
  go_wp2_with fail
  refine (toAtom_any _ _ _ _ _).mono ?_
  rintro e w1 ⟨rfl, hb1⟩
  have bw := hide (bTr (bAl (bAl (bAl (Below.refl _ _) _) _) _) hb1)
  have ro := ((RowIs.new (w.alloc _) _ _).keep (bAl (Below.refl _ _) _)).keep hb1
  have out := (RowIs.new ((w.alloc _).alloc _) _ _).keep hb1
  have arg := hide (((RowIs.new w _ _).keep (bAl (bAl (Below.refl _ _) _) _)).keep hb1)
  simp only [World.size_alloc] at ro out
  clear hb1
  have k0 : w1.cell? ⟨w.heap.size + 1 + 1, 0, none⟩ = some (.int .i64 h.k) := out.at rfl
  have k1 : w1.cell? ⟨w.heap.size + 1 + 1, 1, none⟩ = some (.int .i64 0) := out.at rfl
  have k2 : w1.cell? ⟨w.heap.size + 1 + 1, 2, none⟩ = some (.int .i64 0) := out.at rfl
  have k3 : w1.cell? ⟨w.heap.size + 1 + 1, 3, none⟩ = some (.string ⟨#[]⟩) := out.at rfl
  have k4 : w1.cell? ⟨w.heap.size + 1 + 1, 4, none⟩ = some (.string ⟨#[]⟩) := out.at rfl
  have k5 : w1.cell? ⟨w.heap.size + 1 + 1, 5, none⟩ = some (.string ⟨#[]⟩) := out.at rfl
  have g1 := out.froz 1
  have g2 := out.froz 2
  have g3 := out.froz 3
  have g4 := out.froz 4
  have g5 := out.froz 5
  have j0 : w1.cell? ⟨w.heap.size + 1, 0, none⟩ = some (.int .i64 0) := ro.at rfl
  have f0 := ro.froz 0
  have j1 : w1.cell? ⟨w.heap.size + 1, 1, none⟩ = some (.int .i64 0) := ro.at rfl
  have f1 := ro.froz 1
  have j2 : w1.cell? ⟨w.heap.size + 1, 2, none⟩ = some (.int .i64 0) := ro.at rfl
  have f2 := ro.froz 2
  have j3 : w1.cell? ⟨w.heap.size + 1, 3, none⟩ = some (.string ⟨#[]⟩) := ro.at rfl
  have f3 := ro.froz 3
  have j4 : w1.cell? ⟨w.heap.size + 1, 4, none⟩ = some (.string ⟨#[]⟩) := ro.at rfl
  have f4 := ro.froz 4
  have j5 : w1.cell? ⟨w.heap.size + 1, 5, none⟩ = some (.string ⟨#[]⟩) := ro.at rfl
  have f5 := ro.froz 5
  have a5 : w1.cell? ⟨w.heap.size, 5, none⟩ = some (.string h.ty) := (unhide arg).at rfl
  clear out ro arg
  go_wp2_with fail
  refine bodyPost_ret (v := hAgg h) (by simp [results, Try.results30, go_sem, j0, j1, j2, j3, j4, j5]) rfl ⟨rfl, ?_⟩
  (repeat (refine Below.setCell ?_ (by simp; try omega) _))
  exact unhide bw

set_option maxHeartbeats 1000000 in
theorem eqHead_same (h : HeadT) (w : World) :
    Calls Try.prog 34 #[hAgg h, hAgg h] w fun e w' => e = .returned (.bool true) ∧ Below w.heap.size w w' := by
  go_enter Try.func34, Try.ntmps34
  go_wp2_with fail
  refine (eqAtom_same _ _ _ _ _).mono ?_
  rintro e w1 ⟨rfl, hb1⟩
  have x := (((RowIs.new w _ _).keep (bAl (Below.refl _ _) _)).keep hb1)
  have y := ((RowIs.new (w.alloc _) _ _).keep hb1)
  simp only [World.size_alloc] at x y
  have x5 : w1.cell? ⟨w.heap.size, 5, none⟩ = some (.string h.ty) := x.at rfl
  have y5 : w1.cell? ⟨w.heap.size + 1, 5, none⟩ = some (.string h.ty) := y.at rfl
  have HB := hide hb1
  clear x y hb1
  go_wp2_with fail
  go_ret
  exact ⟨rfl, bTr (bAl (bAl (Below.refl _ _) _) _) (unhide HB)⟩

set_option maxRecDepth 20000 in
set_option maxHeartbeats 2000000 in
theorem szPolicy_any (P : PolT) (a : Option Addr) (len cap : Nat) (left : Int) (w : World) (h0 : 0 ≤ left) (h1 : left ≤ 1048576) (ho : P.Ok) (hl : len ≤ maxLen) (hs : SlExpr w a len P.wh) :
    Calls Try.prog 11 #[polAgg P (.slice a len cap), .int .i64 left] w fun e w' => (∃ m : Int, -1 ≤ m ∧ m ≤ left ∧ (0 ≤ m → (len : Int) ≤ left ∧ Texts P.wh len left) ∧ e = .returned (.int .i64 m)) ∧ Below w.heap.size w w' := by
  have q1 := hide (fun l w h0 h1 => szHead_any P.p l w h0 h1 ho.p)
  have q2 := hide (fun l w h0 h1 => szHead_any P.a l w h0 h1 ho.a)
  have q3 := hide (fun l w h0 h1 => szHead_any P.r l w h0 h1 ho.r)
  have q4 := hide (fun l w h0 h1 hs => szExprS_any a len cap P.wh l w h0 h1 hl hs ho.wh)
  have HS := hide hs
  have si := ho.id9
  unfold maxLen at si
  have R := hide (RowIs.new w (polRow P (.slice a len cap)) 34)
  have B := hide (bAl (Below.refl w.heap.size w) (.cells (polRow P (.slice a len cap)) 34))
  clear hs ho hl
  by_cases g0 : left < (P.id.size : Int)
  · have d : decide (left - (P.id.size : Int) < 0) = true := by simp; omega
    clear R
    go_enter Try.func11, Try.ntmps11
    go_wp2_with fail
    go_ret
    exact ⟨⟨-1, by omega, by omega, by omega, rfl⟩, unhide B⟩
  have d : decide (left - (P.id.size : Int) < 0) = false := by simp; omega
  go_enter Try.func11, Try.ntmps11
  go_wp2_with fail
  refine (unhide q1 _ _ (by omega) (by omega)).mono ?_
  rintro e w1 ⟨⟨m1, x1, y1, rfl⟩, hb1⟩
  replace R := hide ((unhide R).keep hb1)
  replace B := hide (bTr (unhide B) hb1)
  clear hb1 
  by_cases e1 : m1 < 0
  · go_wp2_with fail
    go_ret
    exact ⟨⟨-1, by omega, by omega, by omega, rfl⟩, unhide B⟩
  have c8 := (unhide R).at (o := 8) (v := .int .i64 P.a.k) rfl
  have c9 := (unhide R).at (o := 9) (v := .int .i64 P.a.x) rfl
  have c10 := (unhide R).at (o := 10) (v := .int .i64 P.a.n) rfl
  have c11 := (unhide R).at (o := 11) (v := .string P.a.t) rfl
  have c12 := (unhide R).at (o := 12) (v := .string P.a.y) rfl
  have c13 := (unhide R).at (o := 13) (v := .string P.a.ty) rfl
  go_wp2_with fail
  refine (unhide q2 _ _ (by omega) (by omega)).mono ?_
  rintro e w2 ⟨⟨m2, x2, y2, rfl⟩, hb1⟩
  replace R := hide ((unhide R).keep hb1)
  replace B := hide (bTr (unhide B) hb1)
  clear hb1 c8 c9 c10 c11 c12 c13
  by_cases e2 : m2 < 0
  · go_wp2_with fail
    go_ret
    exact ⟨⟨-1, by omega, by omega, by omega, rfl⟩, unhide B⟩
  have c14 := (unhide R).at (o := 14) (v := .int .i64 P.r.k) rfl
  have c15 := (unhide R).at (o := 15) (v := .int .i64 P.r.x) rfl
  have c16 := (unhide R).at (o := 16) (v := .int .i64 P.r.n) rfl
  have c17 := (unhide R).at (o := 17) (v := .string P.r.t) rfl
  have c18 := (unhide R).at (o := 18) (v := .string P.r.y) rfl
  have c19 := (unhide R).at (o := 19) (v := .string P.r.ty) rfl
  go_wp2_with fail
  refine (unhide q3 _ _ (by omega) (by omega)).mono ?_
  rintro e w3 ⟨⟨m3, x3, y3, rfl⟩, hb1⟩
  replace R := hide ((unhide R).keep hb1)
  replace B := hide (bTr (unhide B) hb1)
  clear hb1 c14 c15 c16 c17 c18 c19
  by_cases e3 : m3 < 0
  · go_wp2_with fail
    go_ret
    exact ⟨⟨-1, by omega, by omega, by omega, rfl⟩, unhide B⟩
  have c20 := (unhide R).at (o := 20) (v := .slice a len cap) rfl
  go_wp2_with fail
  refine (unhide q4 _ _ (by omega) (by omega) ((unhide HS).keep (unhide B))).mono ?_
  rintro e w4 ⟨⟨m4, x4, y4, z4, rfl⟩, hb1⟩
  replace B := hide (bTr (unhide B) hb1)
  clear hb1 c20
  by_cases e4 : m4 < 0
  · go_wp2_with fail
    go_ret
    exact ⟨⟨-1, by omega, by omega, by omega, rfl⟩, unhide B⟩
  have ZT : Hid ((len : Int) ≤ left ∧ Texts P.wh len left) := hide ⟨by have := (z4 (by omega)).1; omega, fun i hi hk => by have := (z4 (by omega)).2 i hi hk; omega⟩
  clear z4
  go_wp2_with fail
  go_ret
  exact ⟨⟨m4, by omega, by omega, fun _ => unhide ZT, rfl⟩, unhide B⟩

end Go.Proofs.Ytbgakkbniekccaa.V
