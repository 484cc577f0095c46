/- eqPolicy of the same; a policy that came in. -/
import Derived.Test.YtbgakkbniekccaaYPm
namespace Go.Proofs.Ytbgakkbniekccaa.V
open Go.ChangeShapes Go.WideShapes Go.RowKit

set_option maxRecDepth 20000 in
set_option maxHeartbeats 2000000 in
theorem eqPolicy_same (P : PolT) (a1 a2 : Option Addr) (l1 c1 l2 c2 : Nat) (w : World) (hl : l1 ≤ maxLen) (h1 : SlExpr w a1 l1 P.wh) (h2 : SlExpr w a2 l2 P.wh) :
    Calls Try.prog 15 #[polAgg P (.slice a1 l1 c1), polAgg P (.slice a2 l2 c2)] w fun e w' => e = .returned (.bool true) ∧ Below w.heap.size w w' := by
  have q := hide (fun w h1 h2 => eqExprS_same a1 a2 l1 c1 l2 c2 P.wh w h1 h2 hl)
  have H1 := hide h1
  have H2 := hide h2
  have X := hide ((RowIs.new w (polRow P (.slice a1 l1 c1)) 41).keep (bAl (Below.refl _ _) (.cells (polRow P (.slice a2 l2 c2)) 41)))
  have Y : Hid (RowIs ((w.alloc (.cells (polRow P (.slice a1 l1 c1)) 41)).alloc (.cells (polRow P (.slice a2 l2 c2)) 41)) (w.heap.size + 1) (polRow P (.slice a2 l2 c2)) 41) := hide (by have := RowIs.new (w.alloc (.cells (polRow P (.slice a1 l1 c1)) 41)) (polRow P (.slice a2 l2 c2)) 41; simpa using this)
  have B := hide (bAl (bAl (Below.refl w.heap.size w) (.cells (polRow P (.slice a1 l1 c1)) 41)) (.cells (polRow P (.slice a2 l2 c2)) 41))
  clear h1 h2 hl
  go_enter Try.func15, Try.ntmps15
  go_wp2_with fail
  refine (eqHead_same P.p _).mono ?_
  rintro e w1 ⟨rfl, hb1⟩
  replace X := hide ((unhide X).keep hb1)
  replace Y := hide ((unhide Y).keep hb1)
  replace B := hide (bTr (unhide B) hb1)
  clear hb1 
  have c8 := (unhide X).at (o := 8) (v := .int .i64 P.a.k) rfl
  have c9 := (unhide X).at (o := 9) (v := .int .i64 P.a.x) rfl
  have c10 := (unhide X).at (o := 10) (v := .int .i64 P.a.n) rfl
  have c11 := (unhide X).at (o := 11) (v := .string P.a.t) rfl
  have c12 := (unhide X).at (o := 12) (v := .string P.a.y) rfl
  have c13 := (unhide X).at (o := 13) (v := .string P.a.ty) rfl
  have d8 := (unhide Y).at (o := 8) (v := .int .i64 P.a.k) rfl
  have d9 := (unhide Y).at (o := 9) (v := .int .i64 P.a.x) rfl
  have d10 := (unhide Y).at (o := 10) (v := .int .i64 P.a.n) rfl
  have d11 := (unhide Y).at (o := 11) (v := .string P.a.t) rfl
  have d12 := (unhide Y).at (o := 12) (v := .string P.a.y) rfl
  have d13 := (unhide Y).at (o := 13) (v := .string P.a.ty) rfl
  go_wp2_with fail
  refine (eqHead_same P.a _).mono ?_
  rintro e w2 ⟨rfl, hb1⟩
  replace X := hide ((unhide X).keep hb1)
  replace Y := hide ((unhide Y).keep hb1)
  replace B := hide (bTr (unhide B) hb1)
  clear hb1 c8 d8 c9 d9 c10 d10 c11 d11 c12 d12 c13 d13
  have c14 := (unhide X).at (o := 14) (v := .int .i64 P.r.k) rfl
  have c15 := (unhide X).at (o := 15) (v := .int .i64 P.r.x) rfl
  have c16 := (unhide X).at (o := 16) (v := .int .i64 P.r.n) rfl
  have c17 := (unhide X).at (o := 17) (v := .string P.r.t) rfl
  have c18 := (unhide X).at (o := 18) (v := .string P.r.y) rfl
  have c19 := (unhide X).at (o := 19) (v := .string P.r.ty) rfl
  have d14 := (unhide Y).at (o := 14) (v := .int .i64 P.r.k) rfl
  have d15 := (unhide Y).at (o := 15) (v := .int .i64 P.r.x) rfl
  have d16 := (unhide Y).at (o := 16) (v := .int .i64 P.r.n) rfl
  have d17 := (unhide Y).at (o := 17) (v := .string P.r.t) rfl
  have d18 := (unhide Y).at (o := 18) (v := .string P.r.y) rfl
  have d19 := (unhide Y).at (o := 19) (v := .string P.r.ty) rfl
  go_wp2_with fail
  refine (eqHead_same P.r _).mono ?_
  rintro e w3 ⟨rfl, hb1⟩
  replace X := hide ((unhide X).keep hb1)
  replace Y := hide ((unhide Y).keep hb1)
  replace B := hide (bTr (unhide B) hb1)
  clear hb1 c14 d14 c15 d15 c16 d16 c17 d17 c18 d18 c19 d19
  have c20 := (unhide X).at (o := 20) (v := .slice a1 l1 c1) rfl
  have d20 := (unhide Y).at (o := 20) (v := .slice a2 l2 c2) rfl
  go_wp2_with fail
  refine (unhide q _ ((unhide H1).keep (unhide B)) ((unhide H2).keep (unhide B))).mono ?_
  rintro e w4 ⟨rfl, hb1⟩
  replace B := hide (bTr (unhide B) hb1)
  clear hb1 c20 d20
  go_wp2_with fail
  go_ret
  exact ⟨rfl, unhide B⟩

section
variable {H : Type} {enc : TypeId × Value → H} {w : World} {base : Nat} {sp : Nat → Bool} {held : Bool}
theorem listY3 {α : Type} {l : List α} (h : l.length = 3) : ∃ c0 c1 c2, l = [c0, c1, c2] := by
  match l, h with
  | [c0, c1, c2], _ => exact ⟨c0, c1, c2, rfl⟩
theorem listY6 {α : Type} {l : List α} (h : l.length = 6) : ∃ c0 c1 c2 c3 c4 c5, l = [c0, c1, c2, c3, c4, c5] := by
  match l, h with
  | [c0, c1, c2, c3, c4, c5], _ => exact ⟨c0, c1, c2, c3, c4, c5, rfl⟩
theorem listY21 {α : Type} {l : List α} (h : l.length = 21) : ∃ c0 c1 c2 c3 c4 c5 c6 c7 c8 c9 c10 c11 c12 c13 c14 c15 c16 c17 c18 c19 c20, l = [c0, c1, c2, c3, c4, c5, c6, c7, c8, c9, c10, c11, c12, c13, c14, c15, c16, c17, c18, c19, c20] := by
  match l, h with
  | [c0, c1, c2, c3, c4, c5, c6, c7, c8, c9, c10, c11, c12, c13, c14, c15, c16, c17, c18, c19, c20], _ => exact ⟨c0, c1, c2, c3, c4, c5, c6, c7, c8, c9, c10, c11, c12, c13, c14, c15, c16, c17, c18, c19, c20, rfl⟩
set_option maxRecDepth 100000 in
theorem read_head {n : Nat} {cs : List Value} {x : DataW H × List MemPlace} (h : DataW.trod enc Try.prog w base sp held n 32 cs = some x) : ∃ A : HeadT, cs = [.int .i64 A.k, .int .i64 A.x, .int .i64 A.n, .string A.t, .string A.y, .string A.ty] ∧ A.Ok := by
  obtain ⟨xs, m, rfl, _, hlen, hx, hf⟩ := DataW.trod_struct Try.underlying32 h
  have hc : Try.prog.cellsOf 32 = 6 := by kernel_rfl
  have k9 : Try.prog.cellsOf 9 = 1 := by kernel_rfl
  have k3 : Try.prog.cellsOf 3 = 1 := by kernel_rfl
  have kA : Try.prog.cellsOf 30 = 4 := by kernel_rfl
  obtain ⟨c0, c1, c2, c3, c4, c5, rfl⟩ := listY6 (hlen.trans hc)
  obtain ⟨x0, x1, x2, rfl⟩ := listY3 hx
  have h0 : DataW.trod enc Try.prog w base sp held m 3 [c0] = some x0 := by have := hf 0 _ rfl; simpa [k9, k3, kA] using this
  have h1 : DataW.trod enc Try.prog w base sp held m 30 [c1, c2, c3, c4] = some x1 := by have := hf 1 _ rfl; simpa [k9, k3, kA] using this
  have h2 : DataW.trod enc Try.prog w base sp held m 9 [c5] = some x2 := by have := hf 2 _ rfl; simpa [k9, k3, kA] using this
  obtain ⟨y0, e0, _, ok0⟩ := DataW.trod_int Try.underlying3 h0
  obtain ⟨B, e1, okB⟩ := read_atom h1
  obtain ⟨y2, e2, _, ok2⟩ := DataW.trod_string Try.underlying9 h2
  simp at e0 e1 e2
  subst e0 e2
  obtain ⟨rfl, rfl, rfl, rfl⟩ := e1
  exact ⟨⟨y0, B.x, B.n, B.t, B.y, y2⟩, rfl, ⟨okB.n8, okB.n9, okB.t9, okB.y9, ok2⟩⟩
set_option maxRecDepth 100000 in
theorem read_policy {r : Reach} {b0 : Nat} {v0 : Value} {d : DataW H} {p : List MemPlace} (hv : Value.okWide Try.prog w r b0 34 v0) (h : DataW.Trod enc Try.prog w base sp held 34 v0 d p) :
    ∃ (P : PolT) (a : Option Addr) (len cap : Nat), v0 = polAgg P (.slice a len cap) ∧ P.Ok ∧ SlExpr w a len P.wh ∧ len ≤ maxLen := by
  have hc : Try.prog.cellsOf 34 = 21 := by kernel_rfl
  have k9 : Try.prog.cellsOf 9 = 1 := by kernel_rfl
  have k4 : Try.prog.cellsOf 4 = 1 := by kernel_rfl
  have kH : Try.prog.cellsOf 32 = 6 := by kernel_rfl
  have kE : Try.prog.cellsOf 22 = 1 := by kernel_rfl
  obtain ⟨cs, rfl, hsz⟩ := okWide_struct Try.underlying34 hv
  obtain ⟨fuel, hf0⟩ := h
  obtain ⟨xs, m, rfl, _, hlen, hx, hf⟩ := DataW.trod_struct Try.underlying34 hf0
  obtain ⟨l⟩ := cs
  obtain ⟨c0, c1, c2, c3, c4, c5, c6, c7, c8, c9, c10, c11, c12, c13, c14, c15, c16, c17, c18, c19, c20, rfl⟩ := listY21 (show l.length = 21 from (by simpa using hsz.trans hc))
  obtain ⟨x0, x1, x2, x3, x4, x5, rfl⟩ := listY6 hx
  have h0 : DataW.trod enc Try.prog w base sp held m 9 [c0] = some x0 := by have := hf 0 _ rfl; simpa [k9, k4, kH, kE, Value.cells] using this
  have h1 : DataW.trod enc Try.prog w base sp held m 4 [c1] = some x1 := by have := hf 1 _ rfl; simpa [k9, k4, kH, kE, Value.cells] using this
  have h2 : DataW.trod enc Try.prog w base sp held m 32 [c2, c3, c4, c5, c6, c7] = some x2 := by have := hf 2 _ rfl; simpa [k9, k4, kH, kE, Value.cells] using this
  have h3 : DataW.trod enc Try.prog w base sp held m 32 [c8, c9, c10, c11, c12, c13] = some x3 := by have := hf 3 _ rfl; simpa [k9, k4, kH, kE, Value.cells] using this
  have h4 : DataW.trod enc Try.prog w base sp held m 32 [c14, c15, c16, c17, c18, c19] = some x4 := by have := hf 4 _ rfl; simpa [k9, k4, kH, kE, Value.cells] using this
  have h5 : DataW.trod enc Try.prog w base sp held m 22 [c20] = some x5 := by have := hf 5 _ rfl; simpa [k9, k4, kH, kE, Value.cells] using this
  obtain ⟨y0, e0, _, o0⟩ := DataW.trod_string Try.underlying9 h0
  obtain ⟨y1, e1, _⟩ := DataW.trod_bool Try.underlying4 h1
  obtain ⟨p2, e2, o2⟩ := read_head h2
  obtain ⟨p3, e3, o3⟩ := read_head h3
  obtain ⟨p4, e4, o4⟩ := read_head h4
  have g5 : ∃ a l c, c20 = .slice a l c := by
    rcases Go.Deep.open_slice Try.underlying22 h5 with ⟨hcs, _⟩ | ⟨a', len', cap', _, _, _, _, hcs, _⟩
    · simp at hcs; exact ⟨_, _, _, hcs⟩
    · simp at hcs; exact ⟨_, _, _, hcs⟩
  obtain ⟨a, len, cap, rfl⟩ := g5
  obtain ⟨wh, s5, o5, m5⟩ := reads_Expr h5
  simp at e0 e1 e2 e3 e4
  subst e0 e1
  obtain ⟨rfl, rfl, rfl, rfl, rfl, rfl⟩ := e2
  obtain ⟨rfl, rfl, rfl, rfl, rfl, rfl⟩ := e3
  obtain ⟨rfl, rfl, rfl, rfl, rfl, rfl⟩ := e4
  exact ⟨⟨y0, y1, p2, p3, p4, wh⟩, a, len, cap, rfl, ⟨o0, o2, o3, o4, o5⟩, s5, m5⟩
end
end Go.Proofs.Ytbgakkbniekccaa.V
