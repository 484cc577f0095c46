/- YPn, XGr, one behind the other. -/
import Derived.Test.YteaidfighimoiaaGreatJ26
import Derived.Test.YteaidfighimoiaaGreatJ17
/- eqPolicy of the same; a policy that came in. -/
namespace Go.Proofs.YteaidfighimoiaaGreat.V
open Go.ChangeShapes Go.WideShapes Go.RowKit

set_option maxRecDepth 20000 in
set_option maxHeartbeats 2000000 in
theorem eqPolicy_same (P : PolT) (a1 a2 : Option Addr) (l1 c1 l2 c2 : Nat) (w : World) (hl : l1 ≤ maxLen) (h1 : SlExpr w a1 l1 P.wh) (h2 : SlExpr w a2 l2 P.wh) :
    Calls Tryz.prog 8 #[polAgg P (.slice a1 l1 c1), polAgg P (.slice a2 l2 c2)] w fun e w' => e = .returned (.bool true) ∧ Below w.heap.size w w' := by
  have q := hide (fun w h1 h2 => eqExprS_same a1 a2 l1 c1 l2 c2 P.wh w h1 h2 hl)
  have H1 := hide h1
  have H2 := hide h2
  have X := hide ((RowIs.new w (polRow P (.slice a1 l1 c1)) 36).keep (bAl (Below.refl _ _) (.cells (polRow P (.slice a2 l2 c2)) 36)))
  have Y : Hid (RowIs ((w.alloc (.cells (polRow P (.slice a1 l1 c1)) 36)).alloc (.cells (polRow P (.slice a2 l2 c2)) 36)) (w.heap.size + 1) (polRow P (.slice a2 l2 c2)) 36) := hide (by have := RowIs.new (w.alloc (.cells (polRow P (.slice a1 l1 c1)) 36)) (polRow P (.slice a2 l2 c2)) 36; simpa using this)
  have B := hide (bAl (bAl (Below.refl w.heap.size w) (.cells (polRow P (.slice a1 l1 c1)) 36)) (.cells (polRow P (.slice a2 l2 c2)) 36))
  clear h1 h2 hl
  go_enter Tryz.func8, Tryz.ntmps8
  go_wp2_with fail
  refine (eqHead_same P.p _).mono ?_
  rintro e w1 ⟨rfl, hb1⟩
  replace X := hide ((unhide X).keep hb1)
  replace Y := hide ((unhide Y).keep hb1)
  replace B := hide (bTr (unhide B) hb1)
  clear hb1 
  have c8 := (unhide X).at (o := 8) (v := .int .i64 P.a.k) rfl
  have c9 := (unhide X).at (o := 9) (v := .int .i64 P.a.x) rfl
  have c10 := (unhide X).at (o := 10) (v := .int .i64 P.a.n) rfl
  have c11 := (unhide X).at (o := 11) (v := .string P.a.t) rfl
  have c12 := (unhide X).at (o := 12) (v := .string P.a.y) rfl
  have c13 := (unhide X).at (o := 13) (v := .string P.a.ty) rfl
  have d8 := (unhide Y).at (o := 8) (v := .int .i64 P.a.k) rfl
  have d9 := (unhide Y).at (o := 9) (v := .int .i64 P.a.x) rfl
  have d10 := (unhide Y).at (o := 10) (v := .int .i64 P.a.n) rfl
  have d11 := (unhide Y).at (o := 11) (v := .string P.a.t) rfl
  have d12 := (unhide Y).at (o := 12) (v := .string P.a.y) rfl
  have d13 := (unhide Y).at (o := 13) (v := .string P.a.ty) rfl
  go_wp2_with fail
  refine (eqHead_same P.a _).mono ?_
  rintro e w2 ⟨rfl, hb1⟩
  replace X := hide ((unhide X).keep hb1)
  replace Y := hide ((unhide Y).keep hb1)
  replace B := hide (bTr (unhide B) hb1)
  clear hb1 c8 d8 c9 d9 c10 d10 c11 d11 c12 d12 c13 d13
  have c14 := (unhide X).at (o := 14) (v := .int .i64 P.r.k) rfl
  have c15 := (unhide X).at (o := 15) (v := .int .i64 P.r.x) rfl
  have c16 := (unhide X).at (o := 16) (v := .int .i64 P.r.n) rfl
  have c17 := (unhide X).at (o := 17) (v := .string P.r.t) rfl
  have c18 := (unhide X).at (o := 18) (v := .string P.r.y) rfl
  have c19 := (unhide X).at (o := 19) (v := .string P.r.ty) rfl
  have d14 := (unhide Y).at (o := 14) (v := .int .i64 P.r.k) rfl
  have d15 := (unhide Y).at (o := 15) (v := .int .i64 P.r.x) rfl
  have d16 := (unhide Y).at (o := 16) (v := .int .i64 P.r.n) rfl
  have d17 := (unhide Y).at (o := 17) (v := .string P.r.t) rfl
  have d18 := (unhide Y).at (o := 18) (v := .string P.r.y) rfl
  have d19 := (unhide Y).at (o := 19) (v := .string P.r.ty) rfl
  go_wp2_with fail
  refine (eqHead_same P.r _).mono ?_
  rintro e w3 ⟨rfl, hb1⟩
  replace X := hide ((unhide X).keep hb1)
  replace Y := hide ((unhide Y).keep hb1)
  replace B := hide (bTr (unhide B) hb1)
  clear hb1 c14 d14 c15 d15 c16 d16 c17 d17 c18 d18 c19 d19
  have c20 := (unhide X).at (o := 20) (v := .slice a1 l1 c1) rfl
  have d20 := (unhide Y).at (o := 20) (v := .slice a2 l2 c2) rfl
  go_wp2_with fail
  refine (unhide q _ ((unhide H1).keep (unhide B)) ((unhide H2).keep (unhide B))).mono ?_
  rintro e w4 ⟨rfl, hb1⟩
  replace B := hide (bTr (unhide B) hb1)
  clear hb1 c20 d20
  go_wp2_with fail
  go_ret
  exact ⟨rfl, unhide B⟩

section
variable {H : Type} {enc : TypeId × Value → H} {w : World} {base : Nat} {sp : Nat → Bool} {held : Bool}
theorem listY3 {α : Type} {l : List α} (h : l.length = 3) : ∃ c0 c1 c2, l = [c0, c1, c2] := by
  match l, h with
  | [c0, c1, c2], _ => exact ⟨c0, c1, c2, rfl⟩
theorem listY6 {α : Type} {l : List α} (h : l.length = 6) : ∃ c0 c1 c2 c3 c4 c5, l = [c0, c1, c2, c3, c4, c5] := by
  match l, h with
  | [c0, c1, c2, c3, c4, c5], _ => exact ⟨c0, c1, c2, c3, c4, c5, rfl⟩
theorem listY21 {α : Type} {l : List α} (h : l.length = 21) : ∃ c0 c1 c2 c3 c4 c5 c6 c7 c8 c9 c10 c11 c12 c13 c14 c15 c16 c17 c18 c19 c20, l = [c0, c1, c2, c3, c4, c5, c6, c7, c8, c9, c10, c11, c12, c13, c14, c15, c16, c17, c18, c19, c20] := by
  match l, h with
  | [c0, c1, c2, c3, c4, c5, c6, c7, c8, c9, c10, c11, c12, c13, c14, c15, c16, c17, c18, c19, c20], _ => exact ⟨c0, c1, c2, c3, c4, c5, c6, c7, c8, c9, c10, c11, c12, c13, c14, c15, c16, c17, c18, c19, c20, rfl⟩
set_option maxRecDepth 100000 in
theorem read_head {n : Nat} {cs : List Value} {x : DataW H × List MemPlace} (h : DataW.trod enc Tryz.prog w base sp held n 25 cs = some x) : ∃ A : HeadT, cs = [.int .i64 A.k, .int .i64 A.x, .int .i64 A.n, .string A.t, .string A.y, .string A.ty] ∧ A.Ok := by
  obtain ⟨xs, m, rfl, _, hlen, hx, hf⟩ := DataW.trod_struct Tryz.underlying25 h
  have hc : Tryz.prog.cellsOf 25 = 6 := by kernel_rfl
  have k9 : Tryz.prog.cellsOf 9 = 1 := by kernel_rfl
  have k3 : Tryz.prog.cellsOf 3 = 1 := by kernel_rfl
  have kA : Tryz.prog.cellsOf 23 = 4 := by kernel_rfl
  obtain ⟨c0, c1, c2, c3, c4, c5, rfl⟩ := listY6 (hlen.trans hc)
  obtain ⟨x0, x1, x2, rfl⟩ := listY3 hx
  have h0 : DataW.trod enc Tryz.prog w base sp held m 3 [c0] = some x0 := by have := hf 0 _ rfl; simpa [k9, k3, kA] using this
  have h1 : DataW.trod enc Tryz.prog w base sp held m 23 [c1, c2, c3, c4] = some x1 := by have := hf 1 _ rfl; simpa [k9, k3, kA] using this
  have h2 : DataW.trod enc Tryz.prog w base sp held m 9 [c5] = some x2 := by have := hf 2 _ rfl; simpa [k9, k3, kA] using this
  obtain ⟨y0, e0, _, ok0⟩ := DataW.trod_int Tryz.underlying3 h0
  obtain ⟨B, e1, okB⟩ := read_atom h1
  obtain ⟨y2, e2, _, ok2⟩ := DataW.trod_string Tryz.underlying9 h2
  simp at e0 e1 e2
  subst e0 e2
  obtain ⟨rfl, rfl, rfl, rfl⟩ := e1
  exact ⟨⟨y0, B.x, B.n, B.t, B.y, y2⟩, rfl, ⟨okB.n8, okB.n9, okB.t9, okB.y9, ok2⟩⟩
set_option maxRecDepth 100000 in
theorem read_policy {r : Reach} {b0 : Nat} {v0 : Value} {d : DataW H} {p : List MemPlace} (hv : Value.okWide Tryz.prog w r b0 28 v0) (h : DataW.Trod enc Tryz.prog w base sp held 28 v0 d p) :
    ∃ (P : PolT) (a : Option Addr) (len cap : Nat), v0 = polAgg P (.slice a len cap) ∧ P.Ok ∧ SlExpr w a len P.wh ∧ len ≤ maxLen := by
  have hc : Tryz.prog.cellsOf 28 = 21 := by kernel_rfl
  have k9 : Tryz.prog.cellsOf 9 = 1 := by kernel_rfl
  have k4 : Tryz.prog.cellsOf 4 = 1 := by kernel_rfl
  have kH : Tryz.prog.cellsOf 25 = 6 := by kernel_rfl
  have kE : Tryz.prog.cellsOf 26 = 1 := by kernel_rfl
  obtain ⟨cs, rfl, hsz⟩ := okWide_struct Tryz.underlying28 hv
  obtain ⟨fuel, hf0⟩ := h
  obtain ⟨xs, m, rfl, _, hlen, hx, hf⟩ := DataW.trod_struct Tryz.underlying28 hf0
  obtain ⟨l⟩ := cs
  obtain ⟨c0, c1, c2, c3, c4, c5, c6, c7, c8, c9, c10, c11, c12, c13, c14, c15, c16, c17, c18, c19, c20, rfl⟩ := listY21 (show l.length = 21 from (by simpa using hsz.trans hc))
  obtain ⟨x0, x1, x2, x3, x4, x5, rfl⟩ := listY6 hx
  have h0 : DataW.trod enc Tryz.prog w base sp held m 9 [c0] = some x0 := by have := hf 0 _ rfl; simpa [k9, k4, kH, kE, Value.cells] using this
  have h1 : DataW.trod enc Tryz.prog w base sp held m 4 [c1] = some x1 := by have := hf 1 _ rfl; simpa [k9, k4, kH, kE, Value.cells] using this
  have h2 : DataW.trod enc Tryz.prog w base sp held m 25 [c2, c3, c4, c5, c6, c7] = some x2 := by have := hf 2 _ rfl; simpa [k9, k4, kH, kE, Value.cells] using this
  have h3 : DataW.trod enc Tryz.prog w base sp held m 25 [c8, c9, c10, c11, c12, c13] = some x3 := by have := hf 3 _ rfl; simpa [k9, k4, kH, kE, Value.cells] using this
  have h4 : DataW.trod enc Tryz.prog w base sp held m 25 [c14, c15, c16, c17, c18, c19] = some x4 := by have := hf 4 _ rfl; simpa [k9, k4, kH, kE, Value.cells] using this
  have h5 : DataW.trod enc Tryz.prog w base sp held m 26 [c20] = some x5 := by have := hf 5 _ rfl; simpa [k9, k4, kH, kE, Value.cells] using this
  obtain ⟨y0, e0, _, o0⟩ := DataW.trod_string Tryz.underlying9 h0
  obtain ⟨y1, e1, _⟩ := DataW.trod_bool Tryz.underlying4 h1
  obtain ⟨p2, e2, o2⟩ := read_head h2
  obtain ⟨p3, e3, o3⟩ := read_head h3
  obtain ⟨p4, e4, o4⟩ := read_head h4
  have g5 : ∃ a l c, c20 = .slice a l c := by
    rcases Go.Deep.open_slice Tryz.underlying26 h5 with ⟨hcs, _⟩ | ⟨a', len', cap', _, _, _, _, hcs, _⟩
    · simp at hcs; exact ⟨_, _, _, hcs⟩
    · simp at hcs; exact ⟨_, _, _, hcs⟩
  obtain ⟨a, len, cap, rfl⟩ := g5
  obtain ⟨wh, s5, o5, m5⟩ := reads_Expr h5
  simp at e0 e1 e2 e3 e4
  subst e0 e1
  obtain ⟨rfl, rfl, rfl, rfl, rfl, rfl⟩ := e2
  obtain ⟨rfl, rfl, rfl, rfl, rfl, rfl⟩ := e3
  obtain ⟨rfl, rfl, rfl, rfl, rfl, rfl⟩ := e4
  exact ⟨⟨y0, y1, p2, p3, p4, wh⟩, a, len, cap, rfl, ⟨o0, o2, o3, o4, o5⟩, s5, m5⟩
end
end Go.Proofs.YteaidfighimoiaaGreat.V
/- impl.growExpr, exprOf: the whole tree. -/
namespace Go.Proofs.YteaidfighimoiaaGreat.V
open Go.RowKit Go.Maps

/-- Trees that were made, and the row u is none of what they lie in. -/
def MadeE (r base : Nat) (w' : World) (u : Value) (pre : List ET) (vs : List Value) : Prop := vs.length = pre.length ∧ ∀ i (h : i < pre.length) (h' : i < vs.length), ∃ (wi : World) (lo : Nat), ExAt wi lo r pre[i] vs[i] ∧ KeptY lo wi w' ∧ (∀ g, u.ownBlock = some g → g < lo ∨ wi.heap.size ≤ g) ∧ base ≤ lo
theorem MadeE.next {r base : Nat} {wr w3 w5 : World} {u u' v : Value} {t : ET} {pre : List ET} {vs : List Value} {o1 : Obj}
    (h : MadeE r base wr u pre vs) (b1 : Below wr.heap.size wr w3) (hv : ExAt w3 wr.heap.size r t v) (hbL : base ≤ wr.heap.size) (hgr : (w3.alloc o1).grownBy w5 u.ownBlock) (hug : ∀ g, u.ownBlock = some g → g < wr.heap.size)
    (hat : u'.ownBlock = u.ownBlock ∨ u'.ownBlock = some (w3.alloc o1).heap.size) : MadeE r base w5 u' (pre ++ [t]) (vs ++ [v]) := by
  have hat' : ∀ g', u'.ownBlock = some g' → u.ownBlock = some g' ∨ w3.heap.size ≤ g' := by
    intro g' hg'
    rcases hat with e | e
    · rw [e] at hg'; exact .inl hg'
    · rw [e] at hg'; simp at hg'; right; omega
  refine ⟨by simp [h.1], fun i hi hi' => ?_⟩
  by_cases e : i < pre.length
  · obtain ⟨wi, lo, c, kp, hu, hb⟩ := h.2 i e (by rw [h.1]; exact e)
    rw [List.getElem_append_left e, List.getElem_append_left (by rw [h.1]; exact e)]
    refine ⟨wi, lo, c, ((kp.below b1 kp.size).alloc o1).grown hgr hu, fun g' hg' => ?_, hb⟩
    rcases hat' g' hg' with h1 | h1
    · exact hu g' h1
    · have := kp.size; have := b1.size; exact .inr (by omega)
  · simp at hi
    obtain rfl : i = pre.length := by omega
    have e1 : (pre ++ [t])[pre.length]'(by simp) = t := by simp
    have e2 : (vs ++ [v])[pre.length]'(by simp [h.1]) = v := by simp [← h.1]
    rw [e1, e2]
    refine ⟨w3, wr.heap.size, hv, ((KeptY.refl _ w3).alloc o1).grown hgr (fun g hg => .inl (hug g hg)), fun g' hg' => ?_, hbL⟩
    rcases hat' g' hg' with h1 | h1
    · exact .inl (hug g' h1)
    · exact .inr h1
theorem MadeE.tree {r base lo : Nat} {w w' : World} {u v : Value} {x : ExprT} {pre : List ET} {vs : List Value} (h : MadeE r base w u pre vs) (hb : Below w.heap.size w w') (hn : NodeV w' w.heap.size x (pre.map ET.n) vs v) (h1 : lo ≤ base) (h2 : lo ≤ w.heap.size) : ExAt w' lo (r + 1) (.node x pre) v :=
  ⟨vs, h.1, hn.low h2, fun i hi hi' => by
    obtain ⟨wi, l, c, kp, _, hl⟩ := h.2 i hi hi'
    exact (c.keptY (kp.below hb kp.size)).low (Nat.le_trans h1 hl)⟩
def GrowEnd2 (B lo : Nat) (w' : World) (r : Nat) (l : List ExprT) (e : Ending) : Prop :=
  (growT r l = none ∧ ∃ v1 v2, e = .returned (.tuple #[v1, v2, .bool false])) ∨
  ∃ t l' T u a' cap', growT r l = some (t, l') ∧ e = .returned (.tuple #[.iface T u, .slice a' l'.length cap', .bool true]) ∧ SlExpr w' a' l'.length l' ∧ l'.length ≤ cap' ∧ l'.length ≤ l.length ∧ (∀ q ∈ l', ExprT.Ok q) ∧ Tag t.n (.iface T u) ∧ InB B a' l' ∧ ExAt w' lo r t (.iface T u)
set_option maxRecDepth 20000 in
set_option maxHeartbeats 2000000 in
theorem growExpr2_any (B : Nat) : ∀ (r : Nat) (a : Option Addr) (len cap : Nat) (l : List ExprT) (w : World), r ≤ 12 → len ≤ 1000 → len ≤ cap → SlExpr w a len l → (∀ q ∈ l, ExprT.Ok q) → InB B a l → B ≤ w.heap.size →
    Calls Tryz.prog 37 #[.slice a len cap, .int .i64 r] w fun e w' => GrowEnd2 B w.heap.size w' r l e ∧ Below w.heap.size w w'
  | r, a, len, cap, [], w, hr, hl, hc, hs, hok, hI, hB => by
    obtain rfl : len = 0 := hs.1
    have no : Hid (growT r [] = none) := hide (by cases r <;> rfl)
    clear hs hok hI hB
    go_enter Tryz.func37, Tryz.ntmps37
    go_wp2_with fail
    refine bodyPost_ret (v := .tuple #[.nilIface, .slice none 0 0, .bool false]) (by simp [results, Tryz.results37, go_sem]) rfl ⟨.inl ⟨unhide no, _, _, rfl⟩, Below.refl _ _⟩
  | 0, a, len, cap, x :: l, w, hr, hl, hc, hs, hok, hI, hB => by
    have hp : ¬ len = 0 := by rw [hs.1]; simp
    clear hs hok hI hB
    go_enter Tryz.func37, Tryz.ntmps37
    go_wp2_with fail
    refine bodyPost_ret (v := .tuple #[.nilIface, .slice none 0 0, .bool false]) (by simp [results, Tryz.results37, go_sem]) rfl ⟨.inl ⟨rfl, _, _, rfl⟩, Below.refl _ _⟩
  | r + 1, a, len, cap, x :: l, w, hr, hl, hc, hs, hok, hI, hB => by
    have ih := hide (growExpr2_any B r)
    have HI := hide hI
    have HB := hide hB
    clear hI hB
    obtain ⟨i0, hi, hz0, hz1, hz2⟩ := info_parts info_tree
    have hlen : len = l.length + 1 := hs.1
    have hp : ¬ len = 0 := by omega
    have hp1 : 1 ≤ len := by omega
    obtain ⟨b, off, rfl, hrow⟩ := hs.head
    have c0 := hrow.c0 0 (by simp)
    have c1 := hrow.c1 0 (by simp)
    have c2 := hrow.c2 0 (by simp)
    have c3 := hrow.c3 0 (by simp)
    have c4 := hrow.c4 0 (by simp)
    have c5 := hrow.c5 0 (by simp)
    have c6 := hrow.c6 0 (by simp)
    simp only [List.getElem_cons_zero, Nat.zero_mul, Nat.add_zero] at c0 c1 c2 c3 c4 c5 c6
    have dl : ((len : Int) == 0) = false := by simp; omega
    have dr : ((r : Int) + 1 == 0) = false := by simp; omega
    have HR := hide hrow
    have q1 := hide (fun w => goodExprNode_any x w (hok x (by simp)))
    have HO := hide (fun q (h : q ∈ l) => hok q (by simp [h]))
    have HL := hide hlen
    have zb := hrow.z
    clear hs hok hrow hlen
    go_enter Tryz.func37, Tryz.ntmps37
    go_wp2_with fail
    refine (unhide q1 _).mono ?_
    rintro e w1 ⟨⟨bn, rfl, hn⟩, hb1⟩
    clear q1 c0 c1 c2 c3 c4 c5 c6
    replace HR := hide ((unhide HR).keep hb1)
    have zb1 := Nat.lt_of_lt_of_le zb hb1.size
    have B1 := hide hb1
    clear hb1 zb
    cases bn with
    | false =>
      have no : Hid (growT (r + 1) (x :: l) = none) := hide (grow_no0 (fun h => by have := hn.2 h; cases this))
      clear hn
      go_wp2_with fail
      refine bodyPost_ret (v := .tuple #[.nilIface, .slice none 0 0, .bool false]) (by simp [results, Tryz.results37, go_sem]) rfl ⟨.inl ⟨unhide no, _, _, rfl⟩, unhide B1⟩
    | true =>
      have HN := hide (hn.1 rfl)
      clear hn
      have c0 := (unhide HR).c0 0 (by simp)
      have c1 := (unhide HR).c1 0 (by simp)
      have c2 := (unhide HR).c2 0 (by simp)
      have c3 := (unhide HR).c3 0 (by simp)
      have c4 := (unhide HR).c4 0 (by simp)
      have c5 := (unhide HR).c5 0 (by simp)
      have c6 := (unhide HR).c6 0 (by simp)
      simp only [List.getElem_cons_zero, Nat.zero_mul, Nat.add_zero] at c0 c1 c2 c3 c4 c5 c6
      go_wp2_with fail
      go_region
      obtain ⟨W2, hW2⟩ : ∃ W, W = (w1.alloc (.cells #[.int .i64 x.f0, .string x.f1, .int .i64 x.f2, .int .i64 x.f3, .string x.f4, .string x.f5, .int .i64 x.f6] 44)).drew := ⟨_, rfl⟩
      rw [← hW2]
      have b2 : Below w1.heap.size w1 W2 := by rw [hW2]; exact (bAl (Below.refl _ _) _).drew
      have R2 : Hid (RowIs W2 w1.heap.size (eRow x) 44) := hide (by rw [hW2]; exact RowIs.new w1 _ _)
      clear hW2 c0 c1 c2 c3 c4 c5 c6
      have B2 := hide (bTr (unhide B1) b2)
      have S2 : Hid (SlExpr W2 (if cap = 1 then some ⟨b, off, none⟩ else some ⟨b, off + 7, none⟩) (len - 1) l) := hide (by
        refine ⟨by have := unhide HL; omega, ?_⟩
        cases hl' : l with
        | nil => exact .inl rfl
        | cons y l1 =>
          right
          have e : ¬ cap = 1 := by have := unhide HL; rw [hl'] at this; simp at this; omega
          rw [if_neg e]
          rw [← hl']
          exact ⟨b, off + 7, rfl, ((unhide HR).keep b2).tail⟩)
      have I2 : Hid (InB B (if cap = 1 then some ⟨b, off, none⟩ else some ⟨b, off + 7, none⟩) l) := hide (by
        rcases unhide HI with e | ⟨b', off', e, hlt⟩
        · cases e
        · simp at e
          obtain ⟨rfl, rfl⟩ := e
          right
          split
          · exact ⟨_, _, rfl, hlt⟩
          · exact ⟨_, _, rfl, hlt⟩)
      have C2 : Hid (len - 1 ≤ cap - 1) := hide (by omega)
      have hn1 : len - 1 ≤ 1000 := by omega
      have HK := hide (unhide HN).kids
      obtain ⟨n, hn6⟩ : ∃ n : Nat, x.f6 = (n : Int) := ⟨x.f6.toNat, by have := (unhide HK).1; omega⟩
      have hn10 : n ≤ 10 := by have := (unhide HK).2; omega
      have r6 := (unhide R2).at (o := 6) (v := .int .i64 x.f6) rfl
      rw [hn6] at r6
      have H6 := hide hn6
      have T6 : Hid (x.f6.toNat = n) := hide (by omega)
      generalize (if cap = 1 then (some ⟨b, off, none⟩ : Option Addr) else some ⟨b, off + 7, none⟩) = A2 at *
      generalize cap - 1 = cap2 at *
      generalize len - 1 = len2 at *
      clear b2 HR B1 zb1 dl hp hp1 hc HK hn6
      go_wp2_with fail
      go_loopw [8, 9, 36] (fun s8 s9 i w' => ∃ (k : Nat) (pre : List ET) (l' : List ExprT) (a' : Option Addr) (n' cap' : Nat) (vs : List Value), k ≤ n ∧ n' ≤ 1000 ∧ i = .int .i64 k ∧ s8 = .slice a' n' cap' ∧ Hid (SlExpr w' a' n' l') ∧ Hid (n' ≤ cap') ∧ Hid (∀ q ∈ l', ExprT.Ok q) ∧ Hid (l'.length ≤ l.length) ∧ Hid (InB B a' l') ∧ Hid (w'.ownsRow W2.heap.size 55 1 s9 k vs) ∧ Hid (Tags (pre.map ET.n) vs) ∧ Hid (KidsTo (growT r) n l k pre l') ∧ Hid (Below W2.heap.size W2 w') ∧ Hid (MadeE r W2.heap.size w' s9 pre vs)) (fun _ _ i _ => n - (Go.RowKit.intOf i).toNat)
      case atStart => exact ⟨0, [], l, A2, len2, cap2, [], Nat.zero_le _, hn1, rfl, rfl, S2, C2, HO, hide (Nat.le_refl _), I2, hide (World.ownsRow_nil _ _ _ _), hide ⟨rfl, fun i h => by simp at h⟩, hide (KidsTo.start _ _ _), hide (Below.refl _ _), hide ⟨rfl, fun i h => by simp at h⟩⟩
      case round =>
        obtain ⟨k, pre, l', a', n', cap', vs, hk, hn', rfl, rfl, hs', hc', ho', hll, hin, hown, htags, hkids, hb', hmade⟩ := hrel
        by_cases hlt : k < n
        · have q := hide (fun w hs => unhide ih a' n' cap' l' w (by omega) hn' (unhide hc') hs (unhide ho') (unhide hin))
          go_wp2_with fail
          have szr := hide (Nat.le_trans (unhide HB) (Nat.le_trans (unhide B2).size (unhide hb').size))
          refine (unhide q _ (unhide hs') (unhide szr)).mono ?_
          rintro e w3 ⟨(⟨hg, v1, v2, rfl⟩ | ⟨t, l2, T, u, a2, cap3, hg, rfl, hs2, hc2, hl2, hok2, htag, hin2, hexa⟩), hb3⟩
          · have no : Hid (growT (r + 1) (x :: l) = none) := hide (grow_no1 (unhide HN) (by rw [unhide T6]; exact (unhide hkids).no hlt hg))
            have B3 := hide (bTr (unhide B2) ((unhide hb').trans (hb3.mono (unhide hb').size)))
            clear hg hb3 q
            go_wp2_with fail
            refine bodyPost_ret (v := .tuple #[.nilIface, .slice none 0 0, .bool false]) (by simp [results, Tryz.results37, go_sem]) rfl ⟨.inl ⟨unhide no, _, _, rfl⟩, unhide B3⟩
          · have ks := hide ((unhide hkids).step hlt hg)
            have ts := hide ((unhide htags).snoc htag)
            have hl3 : l2.length ≤ 1000 := by have := (unhide hs').1; omega
            have hll3 : Hid (l2.length ≤ l.length) := hide (Nat.le_trans hl2 (unhide hll))
            have HS2 := hide hs2
            have HC2 := hide hc2
            have HO2 := hide hok2
            have t1 := hide ((own_keepT (unhide hown) hb3).alloc (.cells #[.iface T u] 55))
            have t2 := hide (cell_one_new w3 (.iface T u) 55)
            have szb : W2.heap.size ≤ w3.heap.size := Nat.le_trans (unhide hb').size hb3.size
            have T4 : Hid (W2.heap.size ≤ (w3.alloc (.cells #[.iface T u] 55)).heap.size) := hide (by simp; omega)
            have t5 : (k + 1) * 16 ≤ 140737488355328 := by omega
            have lt := hide (fun j hj => (unhide hown).lt j hj)
            have HB3 := hide hb3
            have HI2 := hide hin2
            have HEX := hide hexa
            have hug := hide (fun g hg => ((unhide hown).lt g hg).2)
            clear hg q hs2 hc2 hok2 htag hb3 hs' hc' ho' hown htags hkids hl2 hin2 hexa
            go_wp2_with (at_builtin; refine wpList_append_own_at _ rfl _ _ 95 rfl W2.heap.size 55 i0 _ 1 16 Tryz.underlying95 hi hz0 hz1 hz2 rfl (by decide) _ _ _ rfl (unhide t1) ⟨_, 0, none⟩ 1 1 [.iface T u] rfl rfl (unhide t2) (fun x hx => by simp at hx; subst hx; rfl) (by unfold maxLen; omega) t5 (unhide T4) ?_; intro v4 w4 hown4 hgrow4 _ hat4)
            have hB3 : B ≤ w3.heap.size := by have := (unhide B2).size; have := unhide HB; omega
            have B4 : Below W2.heap.size W2 w4 := ((unhide hb').trans ((bAl (unhide HB3) (.cells #[.iface T u] 55)).mono (unhide hb').size)).grown hgrow4 (unhide T4) (fun j hj => (unhide lt j hj).1)
            have K4 : Below B w3 w4 := ((Below.refl B w3).alloc hB3 (.cells #[.iface T u] 55)).grown hgrow4 (by simp; omega) (fun j hj => by have := (unhide lt j hj).1; have := (unhide B2).size; have := unhide HB; omega)
            exact ⟨⟨k + 1, pre ++ [t], l2, a2, l2.length, cap3, vs ++ [.iface T u], by omega, hl3, by go_num, rfl, hide ((unhide HS2).keepB (unhide HI2) K4 (by have := B4.size; have := (unhide B2).size; have := unhide HB; omega)), HC2, HO2, hll3, HI2, hide hown4, hide (by have := unhide ts; simpa using this), ks, hide B4, hide ((unhide hmade).next (unhide HB3) (unhide HEX) (unhide hb').size hgrow4 (unhide hug) hat4)⟩, by simp [Go.RowKit.intOf]; omega⟩
        · have ek : k = n := by omega
          subst ek
          have ko := hide ((unhide hkids).done)
          have R3 := (unhide R2).keep (unhide hb')
          have r0 := R3.at (o := 0) (v := .int .i64 x.f0) rfl
          have r1 := R3.at (o := 1) (v := .string x.f1) rfl
          have r2 := R3.at (o := 2) (v := .int .i64 x.f2) rfl
          have r3 := R3.at (o := 3) (v := .int .i64 x.f3) rfl
          have r4 := R3.at (o := 4) (v := .string x.f4) rfl
          have r5 := R3.at (o := 5) (v := .string x.f5) rfl
          have r6' := R3.at (o := 6) (v := .int .i64 x.f6) rfl
          have zr := R3.lt
          obtain ⟨av, cv, ev⟩ := own_sl (unhide hown)
          subst ev
          have q := hide (exprTreeOf2_any x av k cv (pre.map ET.n) vs wr (unhide HN) (by rw [unhide H6]; simp [(unhide hkids).2.1]) (sli_own (unhide hown)) (unhide htags))
          have lp := hide (unhide hkids).2.1
          clear R3 r6 hkids
          go_wp2_with fail
          refine (unhide q).mono ?_
          rintro e w3 ⟨(⟨h1, v, rfl, htag, hnv⟩ | ⟨h1, rfl⟩), hb3⟩
          · obtain ⟨T, u, rfl⟩ := htag.if_
            have HT := hide htag
            have yes := hide (grow_node (unhide HN) (by rw [unhide T6]; exact unhide ko) h1)
            have HB3 := hide hb3
            have EX := hide ((unhide hmade).tree hb3 hnv (unhide B2).size (Nat.le_trans (unhide B2).size (unhide hb').size))
            clear h1 htag hnv q r0 r1 r2 r3 r4 r5 r6' zr hb3
            go_wp2_with fail
            have hn2 := (unhide hs').1
            refine bodyPost_ret (v := .tuple #[.iface T u, .slice a' n' cap', .bool true]) (by simp [results, Tryz.results37, go_sem]) rfl ⟨.inr ⟨.node x pre, l', T, u, a', cap', unhide yes, by rw [hn2], ?_, ?_, ?_, unhide ho', unhide HT, unhide hin, unhide EX⟩, ?_⟩
            · rw [← hn2]; exact (unhide hs').keep (unhide HB3)
            · rw [← hn2]; exact unhide hc'
            · exact Nat.le_succ_of_le (unhide hll)
            · exact bTr (unhide B2) ((unhide hb').trans ((unhide HB3).mono (unhide hb').size))
          · have no := hide (grow_no2 (unhide HN) (by rw [unhide T6]; exact unhide ko) h1)
            have HB3 := hide hb3
            clear h1 q r0 r1 r2 r3 r4 r5 r6' zr hb3
            go_wp2_with fail
            refine bodyPost_ret (v := .tuple #[.nilIface, .slice a' n' cap', .bool false]) (by simp [results, Tryz.results37, go_sem]) rfl ⟨.inl ⟨unhide no, _, _, rfl⟩, bTr (unhide B2) ((unhide hb').trans ((unhide HB3).mono (unhide hb').size))⟩
end Go.Proofs.YteaidfighimoiaaGreat.V
