/- YLc, YPn, one behind the other. -/
import Derived.Test.YtcajlndbaipcaaaJ21
import Derived.Test.YtcajlndbaipcaaaJ22
/- impl.copied at expressions. -/
namespace Go.Proofs.Ytcajlndbaipcaaa.V
open Go.RowKit Go.Maps

theorem ExprsV_len : ∀ (l : List ExprT), (ExprsV l).length = l.length * 7
  | [] => rfl
  | p :: ps => by have := ExprsV_len ps; simp [ExprsV, encExpr] at this ⊢; omega
theorem ExprsV_at : ∀ (l : List ExprT) (i j : Nat) (h : i < l.length), j < 7 → (ExprsV l)[i * 7 + j]? = (encExpr l[i])[j]?
  | [], i, j, h, _ => by simp at h
  | p :: l, 0, j, _, hj => by
    simp only [ExprsV, List.flatMap_cons, Nat.zero_mul, Nat.zero_add, List.getElem_cons_zero]
    rw [List.getElem?_append_left (by simp [encExpr]; omega)]
  | p :: l, i + 1, j, h, hj => by
    simp only [ExprsV, List.flatMap_cons, List.getElem_cons_succ]
    rw [List.getElem?_append_right (by simp [encExpr]; omega)]
    have := ExprsV_at l i j (by simpa using h) hj
    rw [show (i + 1) * 7 + j - (encExpr p).length = i * 7 + j by simp [encExpr]; omega]
    exact this
theorem exprs_cells {w : World} {b off : Nat} {l : List ExprT} (h : ExprRow w b off l) : ∀ j u, (ExprsV l)[j]? = some u → w.cell? ((⟨b, off, none⟩ : Addr).add j) = some u := by
  intro j u hu
  have hj : j < l.length * 7 := by rw [← ExprsV_len]; exact (List.getElem?_eq_some_iff.1 hu).1
  have hd : j = j / 7 * 7 + j % 7 := by omega
  have hi : j / 7 < l.length := by omega
  have g1 := ExprsV_at l (j / 7) (j % 7) hi (Nat.mod_lt _ (by omega))
  rw [← hd] at g1
  rw [g1] at hu
  rw [addr_Expr]
  have h7 : j % 7 = 0 ∨ j % 7 = 1 ∨ j % 7 = 2 ∨ j % 7 = 3 ∨ j % 7 = 4 ∨ j % 7 = 5 ∨ j % 7 = 6 := by omega
  rcases h7 with k | k | k | k | k | k | k
  · rw [k] at hu; cases hu
    have := h.c0 (j / 7) hi
    rwa [show off + j / 7 * 7 = off + j by omega] at this
  · rw [k] at hu; cases hu
    have := h.c1 (j / 7) hi
    rwa [show off + j / 7 * 7 + 1 = off + j by omega] at this
  · rw [k] at hu; cases hu
    have := h.c2 (j / 7) hi
    rwa [show off + j / 7 * 7 + 2 = off + j by omega] at this
  · rw [k] at hu; cases hu
    have := h.c3 (j / 7) hi
    rwa [show off + j / 7 * 7 + 3 = off + j by omega] at this
  · rw [k] at hu; cases hu
    have := h.c4 (j / 7) hi
    rwa [show off + j / 7 * 7 + 4 = off + j by omega] at this
  · rw [k] at hu; cases hu
    have := h.c5 (j / 7) hi
    rwa [show off + j / 7 * 7 + 5 = off + j by omega] at this
  · rw [k] at hu; cases hu
    have := h.c6 (j / 7) hi
    rwa [show off + j / 7 * 7 + 6 = off + j by omega] at this
theorem one_exprs (l : List ExprT) : ∀ u ∈ ExprsV l, u.oneCell' = true := by
  intro u hu
  unfold ExprsV at hu
  obtain ⟨a, _, ha⟩ := List.mem_flatMap.1 hu
  simp [encExpr] at ha
  rcases ha with rfl | rfl | rfl | rfl | rfl | rfl | rfl <;> rfl
theorem run_copy_many {P : Program} (w : World) (dT sT ty elem : TypeId) (g o dLen dCap sz : Nat) (a : Addr) (sLen sCap : Nat) (cur : Array Value) (t : TypeId) (cs : List Value)
    (hu : P.underlying dT = some (.slice elem)) (hs : (P.info? elem).map (·.size) = some sz)
    (hg : w.heap[g]? = some (.cells cur t (0, 0))) (hn : cs.length = Nat.min sLen dLen * sz)
    (hsrc : ∀ j v, cs[j]? = some v → w.cell? (a.add j) = some v) (hfit : o + cs.length ≤ cur.size) (h1 : ∀ v ∈ cs, v.oneCell' = true) :
    (Builtin.copy_ #[dT, sT] ty #[.slice (some ⟨g, o, none⟩) dLen dCap, .slice (some a) sLen sCap]).run P w =
      .ok (goInt (Nat.min sLen dLen)) (w.setRow g (cur.toList.take o ++ cs ++ cur.toList.drop (o + cs.length)).toArray) := by
  have hl := run_loadCells_list (P := P) w a cs hsrc
  have hst := run_storeCells_at P g o t cs 0 cur w hg (by simpa using hfit) h1
  cases hq : P.info? elem with
  | none => simp [hq] at hs
  | some i =>
    have hi : i.size = sz := by simpa [hq] using hs
    rw [hn] at hl
    simp [Builtin.copy_, run_underlying hu, Builtin.lenOf, Builtin.firstCells, sizeOf, typeInfo, hq, hi, hl, hst]

set_option maxHeartbeats 1000000 in
theorem copied_any (a : Option Addr) (len cap : Nat) (l : List ExprT) (w : World) (hl : len ≤ 1048576) (hs : SlExpr w a len l) :
    Calls Try.prog 26 #[.slice a len cap] w fun e w' => (∃ v, e = .returned v ∧ w'.ownsRow w.heap.size 56 7 v len (ExprsV l)) ∧ Below w.heap.size w w' := by
  have hll := hs.1
  by_cases h0 : len = 0
  · have hn : l = [] := List.length_eq_zero_iff.1 (by omega)
    subst hn
    clear hs hll
    subst h0
    go_enter Try.func26, Try.ntmps26
    go_wp2_with fail
    go_ret
    exact ⟨⟨_, rfl, World.ownsRow_nil _ _ _ _⟩, Below.refl _ _⟩
  · obtain ⟨b, off, rfl, hrow⟩ := hs.at (k := 0) (by omega)
    obtain ⟨w1, C1, hrun, hb1, hr1, hC1⟩ := make_Expr len w hl
    have d0 : ((len : Int) == 0) = false := by simp; omega
    have hcp : ∀ ty, (Builtin.copy_ #[34, 34] ty #[.slice (some ⟨w.heap.size, 0, none⟩) len len, .slice (some ⟨b, off, none⟩) len cap]).run Try.prog w1 = .ok (goInt len) (w1.setRow w.heap.size (ExprsV l).toArray) := by
      intro ty
      have h := run_copy_many (P := Try.prog) w1 34 34 ty 56 w.heap.size 0 len len 7 ⟨b, off, none⟩ len cap C1 56 (ExprsV l) Try.underlying34 (by kernel_rfl) hr1 (by rw [ExprsV_len, ← hll]; simp) (exprs_cells (hrow.keep hb1)) (by rw [ExprsV_len, ← hll]; omega) (one_exprs l)
      have e : C1.toList.drop (0 + (ExprsV l).length) = [] := List.drop_of_length_le (by rw [ExprsV_len, ← hll]; simp; omega)
      rw [e] at h
      simpa using h
    have HB : Hid (Below w.heap.size w (w1.setRow w.heap.size (ExprsV l).toArray)) := hide (bRow hb1 (Nat.le_refl _) _)
    have HR : Hid ((w1.setRow w.heap.size (ExprsV l).toArray).ownsRow w.heap.size 56 7 (.slice (some ⟨w.heap.size, 0, none⟩) len len) len (ExprsV l)) := hide (by
      refine ⟨by rw [ExprsV_len, ← hll], .inr ⟨w.heap.size, len, _, rfl, Nat.le_refl _, setRow_heap _ _ _ _ _ _ hr1, Nat.le_refl _, by unfold maxLen; omega, by simp [ExprsV_len, ← hll], ?_⟩⟩
      rw [List.take_of_length_le (by simp [ExprsV_len, ← hll])])
    clear hs hrow hr1 hb1 hC1 hll
    generalize (ExprsV l).toArray = AV at *
    go_enter Try.func26, Try.ntmps26
    go_wp2_with fail
    go_ret
    exact ⟨⟨_, rfl, unhide HR⟩, unhide HB⟩
end Go.Proofs.Ytcajlndbaipcaaa.V
/- eqPolicy of the same; a policy that came in. -/
namespace Go.Proofs.Ytcajlndbaipcaaa.V
open Go.ChangeShapes Go.WideShapes Go.RowKit

set_option maxRecDepth 20000 in
set_option maxHeartbeats 2000000 in
theorem eqPolicy_same (P : PolT) (a1 a2 : Option Addr) (l1 c1 l2 c2 : Nat) (w : World) (hl : l1 ≤ maxLen) (h1 : SlExpr w a1 l1 P.wh) (h2 : SlExpr w a2 l2 P.wh) :
    Calls Try.prog 10 #[polAgg P (.slice a1 l1 c1), polAgg P (.slice a2 l2 c2)] w fun e w' => e = .returned (.bool true) ∧ Below w.heap.size w w' := by
  have q := hide (fun w h1 h2 => eqExprS_same a1 a2 l1 c1 l2 c2 P.wh w h1 h2 hl)
  have H1 := hide h1
  have H2 := hide h2
  have X := hide ((RowIs.new w (polRow P (.slice a1 l1 c1)) 36).keep (bAl (Below.refl _ _) (.cells (polRow P (.slice a2 l2 c2)) 36)))
  have Y : Hid (RowIs ((w.alloc (.cells (polRow P (.slice a1 l1 c1)) 36)).alloc (.cells (polRow P (.slice a2 l2 c2)) 36)) (w.heap.size + 1) (polRow P (.slice a2 l2 c2)) 36) := hide (by have := RowIs.new (w.alloc (.cells (polRow P (.slice a1 l1 c1)) 36)) (polRow P (.slice a2 l2 c2)) 36; simpa using this)
  have B := hide (bAl (bAl (Below.refl w.heap.size w) (.cells (polRow P (.slice a1 l1 c1)) 36)) (.cells (polRow P (.slice a2 l2 c2)) 36))
  clear h1 h2 hl
  go_enter Try.func10, Try.ntmps10
  go_wp2_with fail
  refine (eqHead_same P.p _).mono ?_
  rintro e w1 ⟨rfl, hb1⟩
  replace X := hide ((unhide X).keep hb1)
  replace Y := hide ((unhide Y).keep hb1)
  replace B := hide (bTr (unhide B) hb1)
  clear hb1 
  have c8 := (unhide X).at (o := 8) (v := .int .i64 P.a.k) rfl
  have c9 := (unhide X).at (o := 9) (v := .int .i64 P.a.x) rfl
  have c10 := (unhide X).at (o := 10) (v := .int .i64 P.a.n) rfl
  have c11 := (unhide X).at (o := 11) (v := .string P.a.t) rfl
  have c12 := (unhide X).at (o := 12) (v := .string P.a.y) rfl
  have c13 := (unhide X).at (o := 13) (v := .string P.a.ty) rfl
  have d8 := (unhide Y).at (o := 8) (v := .int .i64 P.a.k) rfl
  have d9 := (unhide Y).at (o := 9) (v := .int .i64 P.a.x) rfl
  have d10 := (unhide Y).at (o := 10) (v := .int .i64 P.a.n) rfl
  have d11 := (unhide Y).at (o := 11) (v := .string P.a.t) rfl
  have d12 := (unhide Y).at (o := 12) (v := .string P.a.y) rfl
  have d13 := (unhide Y).at (o := 13) (v := .string P.a.ty) rfl
  go_wp2_with fail
  refine (eqHead_same P.a _).mono ?_
  rintro e w2 ⟨rfl, hb1⟩
  replace X := hide ((unhide X).keep hb1)
  replace Y := hide ((unhide Y).keep hb1)
  replace B := hide (bTr (unhide B) hb1)
  clear hb1 c8 d8 c9 d9 c10 d10 c11 d11 c12 d12 c13 d13
  have c14 := (unhide X).at (o := 14) (v := .int .i64 P.r.k) rfl
  have c15 := (unhide X).at (o := 15) (v := .int .i64 P.r.x) rfl
  have c16 := (unhide X).at (o := 16) (v := .int .i64 P.r.n) rfl
  have c17 := (unhide X).at (o := 17) (v := .string P.r.t) rfl
  have c18 := (unhide X).at (o := 18) (v := .string P.r.y) rfl
  have c19 := (unhide X).at (o := 19) (v := .string P.r.ty) rfl
  have d14 := (unhide Y).at (o := 14) (v := .int .i64 P.r.k) rfl
  have d15 := (unhide Y).at (o := 15) (v := .int .i64 P.r.x) rfl
  have d16 := (unhide Y).at (o := 16) (v := .int .i64 P.r.n) rfl
  have d17 := (unhide Y).at (o := 17) (v := .string P.r.t) rfl
  have d18 := (unhide Y).at (o := 18) (v := .string P.r.y) rfl
  have d19 := (unhide Y).at (o := 19) (v := .string P.r.ty) rfl
  go_wp2_with fail
  refine (eqHead_same P.r _).mono ?_
  rintro e w3 ⟨rfl, hb1⟩
  replace X := hide ((unhide X).keep hb1)
  replace Y := hide ((unhide Y).keep hb1)
  replace B := hide (bTr (unhide B) hb1)
  clear hb1 c14 d14 c15 d15 c16 d16 c17 d17 c18 d18 c19 d19
  have c20 := (unhide X).at (o := 20) (v := .slice a1 l1 c1) rfl
  have d20 := (unhide Y).at (o := 20) (v := .slice a2 l2 c2) rfl
  go_wp2_with fail
  refine (unhide q _ ((unhide H1).keep (unhide B)) ((unhide H2).keep (unhide B))).mono ?_
  rintro e w4 ⟨rfl, hb1⟩
  replace B := hide (bTr (unhide B) hb1)
  clear hb1 c20 d20
  go_wp2_with fail
  go_ret
  exact ⟨rfl, unhide B⟩

section
variable {H : Type} {enc : TypeId × Value → H} {w : World} {base : Nat} {sp : Nat → Bool} {held : Bool}
theorem listY3 {α : Type} {l : List α} (h : l.length = 3) : ∃ c0 c1 c2, l = [c0, c1, c2] := by
  match l, h with
  | [c0, c1, c2], _ => exact ⟨c0, c1, c2, rfl⟩
theorem listY6 {α : Type} {l : List α} (h : l.length = 6) : ∃ c0 c1 c2 c3 c4 c5, l = [c0, c1, c2, c3, c4, c5] := by
  match l, h with
  | [c0, c1, c2, c3, c4, c5], _ => exact ⟨c0, c1, c2, c3, c4, c5, rfl⟩
theorem listY21 {α : Type} {l : List α} (h : l.length = 21) : ∃ c0 c1 c2 c3 c4 c5 c6 c7 c8 c9 c10 c11 c12 c13 c14 c15 c16 c17 c18 c19 c20, l = [c0, c1, c2, c3, c4, c5, c6, c7, c8, c9, c10, c11, c12, c13, c14, c15, c16, c17, c18, c19, c20] := by
  match l, h with
  | [c0, c1, c2, c3, c4, c5, c6, c7, c8, c9, c10, c11, c12, c13, c14, c15, c16, c17, c18, c19, c20], _ => exact ⟨c0, c1, c2, c3, c4, c5, c6, c7, c8, c9, c10, c11, c12, c13, c14, c15, c16, c17, c18, c19, c20, rfl⟩
set_option maxRecDepth 100000 in
theorem read_head {n : Nat} {cs : List Value} {x : DataW H × List MemPlace} (h : DataW.trod enc Try.prog w base sp held n 25 cs = some x) : ∃ A : HeadT, cs = [.int .i64 A.k, .int .i64 A.x, .int .i64 A.n, .string A.t, .string A.y, .string A.ty] ∧ A.Ok := by
  obtain ⟨xs, m, rfl, _, hlen, hx, hf⟩ := DataW.trod_struct Try.underlying25 h
  have hc : Try.prog.cellsOf 25 = 6 := by kernel_rfl
  have k9 : Try.prog.cellsOf 9 = 1 := by kernel_rfl
  have k3 : Try.prog.cellsOf 3 = 1 := by kernel_rfl
  have kA : Try.prog.cellsOf 23 = 4 := by kernel_rfl
  obtain ⟨c0, c1, c2, c3, c4, c5, rfl⟩ := listY6 (hlen.trans hc)
  obtain ⟨x0, x1, x2, rfl⟩ := listY3 hx
  have h0 : DataW.trod enc Try.prog w base sp held m 3 [c0] = some x0 := by have := hf 0 _ rfl; simpa [k9, k3, kA] using this
  have h1 : DataW.trod enc Try.prog w base sp held m 23 [c1, c2, c3, c4] = some x1 := by have := hf 1 _ rfl; simpa [k9, k3, kA] using this
  have h2 : DataW.trod enc Try.prog w base sp held m 9 [c5] = some x2 := by have := hf 2 _ rfl; simpa [k9, k3, kA] using this
  obtain ⟨y0, e0, _, ok0⟩ := DataW.trod_int Try.underlying3 h0
  obtain ⟨B, e1, okB⟩ := read_atom h1
  obtain ⟨y2, e2, _, ok2⟩ := DataW.trod_string Try.underlying9 h2
  simp at e0 e1 e2
  subst e0 e2
  obtain ⟨rfl, rfl, rfl, rfl⟩ := e1
  exact ⟨⟨y0, B.x, B.n, B.t, B.y, y2⟩, rfl, ⟨okB.n8, okB.n9, okB.t9, okB.y9, ok2⟩⟩
set_option maxRecDepth 100000 in
theorem read_policy {r : Reach} {b0 : Nat} {v0 : Value} {d : DataW H} {p : List MemPlace} (hv : Value.okWide Try.prog w r b0 28 v0) (h : DataW.Trod enc Try.prog w base sp held 28 v0 d p) :
    ∃ (P : PolT) (a : Option Addr) (len cap : Nat), v0 = polAgg P (.slice a len cap) ∧ P.Ok ∧ SlExpr w a len P.wh ∧ len ≤ maxLen := by
  have hc : Try.prog.cellsOf 28 = 21 := by kernel_rfl
  have k9 : Try.prog.cellsOf 9 = 1 := by kernel_rfl
  have k4 : Try.prog.cellsOf 4 = 1 := by kernel_rfl
  have kH : Try.prog.cellsOf 25 = 6 := by kernel_rfl
  have kE : Try.prog.cellsOf 26 = 1 := by kernel_rfl
  obtain ⟨cs, rfl, hsz⟩ := okWide_struct Try.underlying28 hv
  obtain ⟨fuel, hf0⟩ := h
  obtain ⟨xs, m, rfl, _, hlen, hx, hf⟩ := DataW.trod_struct Try.underlying28 hf0
  obtain ⟨l⟩ := cs
  obtain ⟨c0, c1, c2, c3, c4, c5, c6, c7, c8, c9, c10, c11, c12, c13, c14, c15, c16, c17, c18, c19, c20, rfl⟩ := listY21 (show l.length = 21 from (by simpa using hsz.trans hc))
  obtain ⟨x0, x1, x2, x3, x4, x5, rfl⟩ := listY6 hx
  have h0 : DataW.trod enc Try.prog w base sp held m 9 [c0] = some x0 := by have := hf 0 _ rfl; simpa [k9, k4, kH, kE, Value.cells] using this
  have h1 : DataW.trod enc Try.prog w base sp held m 4 [c1] = some x1 := by have := hf 1 _ rfl; simpa [k9, k4, kH, kE, Value.cells] using this
  have h2 : DataW.trod enc Try.prog w base sp held m 25 [c2, c3, c4, c5, c6, c7] = some x2 := by have := hf 2 _ rfl; simpa [k9, k4, kH, kE, Value.cells] using this
  have h3 : DataW.trod enc Try.prog w base sp held m 25 [c8, c9, c10, c11, c12, c13] = some x3 := by have := hf 3 _ rfl; simpa [k9, k4, kH, kE, Value.cells] using this
  have h4 : DataW.trod enc Try.prog w base sp held m 25 [c14, c15, c16, c17, c18, c19] = some x4 := by have := hf 4 _ rfl; simpa [k9, k4, kH, kE, Value.cells] using this
  have h5 : DataW.trod enc Try.prog w base sp held m 26 [c20] = some x5 := by have := hf 5 _ rfl; simpa [k9, k4, kH, kE, Value.cells] using this
  obtain ⟨y0, e0, _, o0⟩ := DataW.trod_string Try.underlying9 h0
  obtain ⟨y1, e1, _⟩ := DataW.trod_bool Try.underlying4 h1
  obtain ⟨p2, e2, o2⟩ := read_head h2
  obtain ⟨p3, e3, o3⟩ := read_head h3
  obtain ⟨p4, e4, o4⟩ := read_head h4
  have g5 : ∃ a l c, c20 = .slice a l c := by
    rcases Go.Deep.open_slice Try.underlying26 h5 with ⟨hcs, _⟩ | ⟨a', len', cap', _, _, _, _, hcs, _⟩
    · simp at hcs; exact ⟨_, _, _, hcs⟩
    · simp at hcs; exact ⟨_, _, _, hcs⟩
  obtain ⟨a, len, cap, rfl⟩ := g5
  obtain ⟨wh, s5, o5, m5⟩ := reads_Expr h5
  simp at e0 e1 e2 e3 e4
  subst e0 e1
  obtain ⟨rfl, rfl, rfl, rfl, rfl, rfl⟩ := e2
  obtain ⟨rfl, rfl, rfl, rfl, rfl, rfl⟩ := e3
  obtain ⟨rfl, rfl, rfl, rfl, rfl, rfl⟩ := e4
  exact ⟨⟨y0, y1, p2, p3, p4, wh⟩, a, len, cap, rfl, ⟨o0, o2, o3, o4, o5⟩, s5, m5⟩
end
end Go.Proofs.Ytcajlndbaipcaaa.V
