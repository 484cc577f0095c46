/- WEq, YEx, one behind the other. -/
import Derived.Test.YteaidfighimoiaaGreatJ2
import Derived.Test.YteaidfighimoiaaGreatJ6
import Derived.ProofKit
import Derived.Deep.Slices
import Derived.Laws.MakeOwn
import Derived.OwnWalk
/- WEq, ported from seat 1a. -/
namespace Go.Proofs.YteaidfighimoiaaGreat.V
open Go.RowKit

theorem eqAtom_same (x n : Int) (t y : ByteArray) (w : World) :
    Calls Tryz.prog 42 #[.agg #[.int .i64 x, .int .i64 n, .string t, .string y], .agg #[.int .i64 x, .int .i64 n, .string t, .string y]] w fun e w' => e = .returned (.bool true) ∧ Below w.heap.size w w' := by
  go_enter Tryz.func42, Tryz.ntmps42
  go_wp2
  go_ret
  exact ⟨rfl, bAl (bAl (Below.refl _ _) _) _⟩

end Go.Proofs.YteaidfighimoiaaGreat.V
/- Slices of impl.Expr: in memory, read, sized, copied, held against each other. -/
namespace Go.Proofs.YteaidfighimoiaaGreat.V
open Go.ChangeShapes Go.WideShapes Go.RowKit

structure ExprT where
  f0 : Int
  f1 : ByteArray
  f2 : Int
  f3 : Int
  f4 : ByteArray
  f5 : ByteArray
  f6 : Int
structure ExprT.Ok (x : ExprT) : Prop where
  o0 : (Lit.int .i64 x.f0).wf = true
  o1 : x.f1.size ≤ maxLen
  n8 : -9223372036854775808 ≤ x.f3
  n9 : x.f3 ≤ 9223372036854775807
  o4 : x.f4.size ≤ maxLen
  o5 : x.f5.size ≤ maxLen
  o6 : (Lit.int .i64 x.f6).wf = true
def encExpr (x : ExprT) : List Value := [.int .i64 x.f0, .string x.f1, .int .i64 x.f2, .int .i64 x.f3, .string x.f4, .string x.f5, .int .i64 x.f6]
structure ExprRow (w : World) (b off : Nat) (l : List ExprT) : Prop where
  z : b < w.heap.size
  c0 : ∀ i (h : i < l.length), w.cell? ⟨b, off + i * 7, none⟩ = some (.int .i64 l[i].f0)
  c1 : ∀ i (h : i < l.length), w.cell? ⟨b, off + i * 7 + 1, none⟩ = some (.string l[i].f1)
  c2 : ∀ i (h : i < l.length), w.cell? ⟨b, off + i * 7 + 2, none⟩ = some (.int .i64 l[i].f2)
  c3 : ∀ i (h : i < l.length), w.cell? ⟨b, off + i * 7 + 3, none⟩ = some (.int .i64 l[i].f3)
  c4 : ∀ i (h : i < l.length), w.cell? ⟨b, off + i * 7 + 4, none⟩ = some (.string l[i].f4)
  c5 : ∀ i (h : i < l.length), w.cell? ⟨b, off + i * 7 + 5, none⟩ = some (.string l[i].f5)
  c6 : ∀ i (h : i < l.length), w.cell? ⟨b, off + i * 7 + 6, none⟩ = some (.int .i64 l[i].f6)
theorem ExprRow.keep {w w1 : World} {b off : Nat} {l : List ExprT} (h : ExprRow w b off l) (hb : Below w.heap.size w w1) : ExprRow w1 b off l :=
  ⟨Nat.lt_of_lt_of_le h.z hb.size, fun i hi => cellB hb h.z (h.c0 i hi), fun i hi => cellB hb h.z (h.c1 i hi), fun i hi => cellB hb h.z (h.c2 i hi), fun i hi => cellB hb h.z (h.c3 i hi), fun i hi => cellB hb h.z (h.c4 i hi), fun i hi => cellB hb h.z (h.c5 i hi), fun i hi => cellB hb h.z (h.c6 i hi)⟩
def SlExpr (w : World) (a : Option Addr) (len : Nat) (l : List ExprT) : Prop := len = l.length ∧ (l = [] ∨ ∃ b off, a = some ⟨b, off, none⟩ ∧ ExprRow w b off l)
theorem SlExpr.keep {w w1 : World} {a : Option Addr} {len : Nat} {l : List ExprT} (h : SlExpr w a len l) (hb : Below w.heap.size w w1) : SlExpr w1 a len l :=
  ⟨h.1, by
    rcases h.2 with e | ⟨b, off, e, r⟩
    · exact .inl e
    · exact .inr ⟨b, off, e, r.keep hb⟩⟩
theorem SlExpr.at {w : World} {a : Option Addr} {len : Nat} {l : List ExprT} (h : SlExpr w a len l) {k : Nat} (hk : k < len) : ∃ b off, a = some ⟨b, off, none⟩ ∧ ExprRow w b off l := by
  rcases h.2 with e | e
  · rw [h.1, e] at hk; simp at hk
  · exact e
theorem bStExpr {w w' : World} (h : Below w.heap.size w w') (b o : Nat) (hb : w.heap.size ≤ b) (v : Value) : Below w.heap.size w (w'.setCell ⟨b, o, none⟩ v) := h.setCell hb v
set_option maxHeartbeats 1000000 in
theorem toExpr_any (f0 : Int) (f1 : ByteArray) (f2 : Int) (f3 : Int) (f4 : ByteArray) (f5 : ByteArray) (f6 : Int) (w : World) :
    Calls Tryz.prog 33 #[.agg #[.int .i64 f0, .string f1, .int .i64 f2, .int .i64 f3, .string f4, .string f5, .int .i64 f6]] w fun e w' => e = .returned (.agg #[.int .i64 f0, .string f1, .int .i64 f2, .int .i64 f3, .string f4, .string f5, .int .i64 f6]) ∧ Below w.heap.size w w' := by
  go_enter Tryz.func33, Tryz.ntmps33
  go_wp2_with fail
  refine (toAtom_any _ _ _ _ _).mono ?_
  rintro e w1 ⟨rfl, hb1⟩
  have bw := hide (bTr (bAl (bAl (bAl (Below.refl _ _) _) _) _) hb1)
  have ro := ((RowIs.new (w.alloc _) _ _).keep (bAl (Below.refl _ _) _)).keep hb1
  have out := (RowIs.new ((w.alloc _).alloc _) _ _).keep hb1
  have arg := hide (((RowIs.new w _ _).keep (bAl (bAl (Below.refl _ _) _) _)).keep hb1)
  simp only [World.size_alloc] at ro out
  clear hb1
  have k0 : w1.cell? ⟨w.heap.size + 1 + 1, 0, none⟩ = some (.int .i64 f0) := out.at rfl
  have k1 : w1.cell? ⟨w.heap.size + 1 + 1, 1, none⟩ = some (.string f1) := out.at rfl
  have k2 : w1.cell? ⟨w.heap.size + 1 + 1, 2, none⟩ = some (.int .i64 0) := out.at rfl
  have k3 : w1.cell? ⟨w.heap.size + 1 + 1, 3, none⟩ = some (.int .i64 0) := out.at rfl
  have k4 : w1.cell? ⟨w.heap.size + 1 + 1, 4, none⟩ = some (.string ⟨#[]⟩) := out.at rfl
  have k5 : w1.cell? ⟨w.heap.size + 1 + 1, 5, none⟩ = some (.string ⟨#[]⟩) := out.at rfl
  have k6 : w1.cell? ⟨w.heap.size + 1 + 1, 6, none⟩ = some (.int .i64 0) := out.at rfl
  have g2 := out.froz 2
  have g3 := out.froz 3
  have g4 := out.froz 4
  have g5 := out.froz 5
  have g6 := out.froz 6
  have j0 : w1.cell? ⟨w.heap.size + 1, 0, none⟩ = some (.int .i64 0) := ro.at rfl
  have h0 := ro.froz 0
  have j1 : w1.cell? ⟨w.heap.size + 1, 1, none⟩ = some (.string ⟨#[]⟩) := ro.at rfl
  have h1 := ro.froz 1
  have j2 : w1.cell? ⟨w.heap.size + 1, 2, none⟩ = some (.int .i64 0) := ro.at rfl
  have h2 := ro.froz 2
  have j3 : w1.cell? ⟨w.heap.size + 1, 3, none⟩ = some (.int .i64 0) := ro.at rfl
  have h3 := ro.froz 3
  have j4 : w1.cell? ⟨w.heap.size + 1, 4, none⟩ = some (.string ⟨#[]⟩) := ro.at rfl
  have h4 := ro.froz 4
  have j5 : w1.cell? ⟨w.heap.size + 1, 5, none⟩ = some (.string ⟨#[]⟩) := ro.at rfl
  have h5 := ro.froz 5
  have j6 : w1.cell? ⟨w.heap.size + 1, 6, none⟩ = some (.int .i64 0) := ro.at rfl
  have h6 := ro.froz 6
  have a6 : w1.cell? ⟨w.heap.size, 6, none⟩ = some (.int .i64 f6) := (unhide arg).at rfl
  clear out ro arg
  go_wp2_with fail
  refine bodyPost_ret (v := .agg #[.int .i64 f0, .string f1, .int .i64 f2, .int .i64 f3, .string f4, .string f5, .int .i64 f6]) (by simp [results, Tryz.results33, go_sem, j0, j1, j2, j3, j4, j5, j6]) rfl ⟨rfl, ?_⟩
  (repeat (refine Below.setCell ?_ (by simp; try omega) _))
  exact unhide bw
set_option maxHeartbeats 400000 in
theorem eqExpr_same (f0 : Int) (f1 : ByteArray) (f2 : Int) (f3 : Int) (f4 : ByteArray) (f5 : ByteArray) (f6 : Int) (w : World) :
    Calls Tryz.prog 43 #[.agg #[.int .i64 f0, .string f1, .int .i64 f2, .int .i64 f3, .string f4, .string f5, .int .i64 f6], .agg #[.int .i64 f0, .string f1, .int .i64 f2, .int .i64 f3, .string f4, .string f5, .int .i64 f6]] w fun e w' => e = .returned (.bool true) ∧ Below w.heap.size w w' := by
  go_enter Tryz.func43, Tryz.ntmps43
  go_wp2_with fail
  refine (eqAtom_same _ _ _ _ _).mono ?_
  rintro e w1 ⟨rfl, hb1⟩
  have x := (((RowIs.new w _ _).keep (bAl (Below.refl _ _) _)).keep hb1)
  have y := ((RowIs.new (w.alloc _) _ _).keep hb1)
  simp only [World.size_alloc] at x y
  have x6 : w1.cell? ⟨w.heap.size, 6, none⟩ = some (.int .i64 f6) := x.at rfl
  have y6 : w1.cell? ⟨w.heap.size + 1, 6, none⟩ = some (.int .i64 f6) := y.at rfl
  have HB := hide hb1
  clear x y hb1
  go_wp2_with fail
  go_ret
  exact ⟨rfl, bTr (bAl (bAl (Below.refl _ _) _) _) (unhide HB)⟩
set_option maxHeartbeats 400000 in
theorem szExpr_any (f0 : Int) (f1 : ByteArray) (f2 : Int) (f3 : Int) (f4 : ByteArray) (f5 : ByteArray) (f6 : Int) (l : Int) (w : World) (h0 : 0 ≤ l) (h1 : l ≤ 1048576) (s1 : f1.size ≤ maxLen) (s4 : f4.size ≤ maxLen) (s5 : f5.size ≤ maxLen) :
    Calls Tryz.prog 24 #[.agg #[.int .i64 f0, .string f1, .int .i64 f2, .int .i64 f3, .string f4, .string f5, .int .i64 f6], .int .i64 l] w fun e w' => (∃ m : Int, -1 ≤ m ∧ m ≤ l ∧ (0 ≤ m → (f1.size : Int) ≤ l) ∧ e = .returned (.int .i64 m)) ∧ Below w.heap.size w w' := by
  have q := hide (fun l w h0 h1 => szAtom_any f2 f3 l f4 f5 w h0 h1 s4 s5)
  clear s4 s5
  unfold maxLen at s1
  by_cases g0 : l < (f1.size : Int)
  · go_enter Tryz.func24, Tryz.ntmps24
    go_wp2_with fail
    go_ret
    exact ⟨⟨_, by omega, by omega, by omega, rfl⟩, bAl (Below.refl _ _) _⟩
  have d0 : decide (l - (f1.size : Int) < 0) = false := by simp; omega
  go_enter Tryz.func24, Tryz.ntmps24
  go_wp2_with fail
  refine (unhide q _ _ (by omega) (by omega)).mono ?_
  rintro e w1 ⟨⟨m, hm1, hm2, rfl⟩, hb1⟩
  by_cases hm : m < 0
  · go_wp2_with fail
    go_ret
    exact ⟨⟨_, by omega, by omega, by omega, rfl⟩, bTr (bAl (Below.refl _ _) _) hb1⟩
  · go_wp2_with fail
    go_ret
    exact ⟨⟨_, by omega, by omega, by omega, rfl⟩, bTr (bAl (Below.refl _ _) _) hb1⟩
/-- Each of the first k texts has at most so many bytes. -/
def Texts (l : List ExprT) (k : Nat) (left : Int) : Prop := ∀ i (h : i < l.length), i < k → ((l[i]).f1.size : Int) ≤ left
theorem Texts.step {l : List ExprT} {k : Nat} {left : Int} (t : Texts l k left) (hk : k < l.length) (h : ((l[k]).f1.size : Int) ≤ left) : Texts l (k + 1) left := by
  intro i hi hik
  by_cases e : i = k
  · subst e; exact h
  · exact t i hi (by omega)
set_option maxHeartbeats 400000 in
theorem szExprS_any (a : Option Addr) (len cap : Nat) (l : List ExprT) (left : Int) (w : World) (h0 : 0 ≤ left) (h1 : left ≤ 1048576) (hl : len ≤ maxLen) (hs : SlExpr w a len l) (hok : ∀ q ∈ l, ExprT.Ok q) :
    Calls Tryz.prog 10 #[.slice a len cap, .int .i64 left] w fun e w' => (∃ m : Int, -1 ≤ m ∧ m ≤ left ∧ (0 ≤ m → (len : Int) ≤ left ∧ Texts l len left) ∧ e = .returned (.int .i64 m)) ∧ Below w.heap.size w w' := by
  unfold maxLen at hl
  by_cases hlen : left < (len : Int)
  · clear hs hok
    go_enter Tryz.func10, Tryz.ntmps10
    go_wp2
    go_ret
    exact ⟨⟨-1, by omega, by omega, by omega, rfl⟩, Below.refl _ _⟩
  have d1 : decide (left - (len : Int) < 0) = false := by simp; omega
  have HS := hide hs
  clear hs
  go_enter Tryz.func10, Tryz.ntmps10
  go_wp2
  go_loopw [1, 5] (fun m i w' => ∃ (k : Nat) (q : Int), k ≤ len ∧ 0 ≤ q ∧ q ≤ left ∧ i = .int .i64 k ∧ m = .int .i64 q ∧ Hid (Texts l k left) ∧ Below w.heap.size w w') (fun _ i _ => len - (Go.RowKit.intOf i).toNat)
  case atStart => exact ⟨0, _, Nat.zero_le _, by omega, by omega, rfl, rfl, hide (fun i _ h => absurd h (Nat.not_lt_zero _)), Below.refl _ _⟩
  case round =>
    obtain ⟨k, q, hk, hq1, hq2, rfl, rfl, ht, hbel⟩ := hrel
    by_cases hlt : k < len
    · obtain ⟨b, off, rfl, hrow⟩ := ((unhide HS).keep hbel).at hlt
      have hk' : k < l.length := by rw [← (unhide HS).1]; exact hlt
      have c0 := hrow.c0 k hk'
      have c1 := hrow.c1 k hk'
      have c2 := hrow.c2 k hk'
      have c3 := hrow.c3 k hk'
      have c4 := hrow.c4 k hk'
      have c5 := hrow.c5 k hk'
      have c6 := hrow.c6 k hk'
      have ht' := hide (fun (h : ((l[k]).f1.size : Int) ≤ left) => (unhide ht).step hk' h)
      have ho := hok _ (List.getElem_mem hk')
      have hz := hide (fun q w h0 h1 => szExpr_any (l[k]).f0 (l[k]).f1 (l[k]).f2 (l[k]).f3 (l[k]).f4 (l[k]).f5 (l[k]).f6 q w h0 h1 ho.o1 ho.o4 ho.o5)
      clear hrow ho hok
      generalize l[k] = A at ht' hz c0 c1 c2 c3 c4 c5 c6
      go_wp2_with fail
      refine (unhide hz _ _ (by omega) (by omega)).mono ?_
      rintro e w1 ⟨⟨m, hm1, hm2, hm3, rfl⟩, hb1⟩
      by_cases hm : m < 0
      · go_wp2_with fail
        go_ret
        exact ⟨⟨-1, by omega, by omega, by omega, rfl⟩, bTr hbel hb1⟩
      · go_wp2_with fail
        exact ⟨⟨k + 1, m, by omega, by omega, by omega, by go_num, rfl, hide (unhide ht' (by omega)), bTr hbel hb1⟩, by simp [Go.RowKit.intOf]; omega⟩
    · go_wp2_with fail
      go_ret
      exact ⟨⟨q, by omega, by omega, fun _ => ⟨by omega, (show k = len by omega) ▸ unhide ht⟩, rfl⟩, hbel⟩
theorem info_Expr : (Tryz.prog.info? 44).map (fun i => (i.zero, i.size, i.bytes)) = some (some (.agg #[.int .i64 0, .string ByteArray.empty, .int .i64 0, .int .i64 0, .string ByteArray.empty, .string ByteArray.empty, .int .i64 0]), 7, 80) := by kernel_rfl
theorem make_Expr (len : Nat) (w : World) (h : len ≤ 1048576) : ∃ w1 C, (Instr.makeSlice 34 (.int .i64 (len : Int)) (.int .i64 (len : Int))).run Tryz.prog w = .ok (.slice (some ⟨w.heap.size, 0, none⟩) len len) w1 ∧
    Below w.heap.size w w1 ∧ RowIs w1 w.heap.size C 44 ∧ C.size = len * 7 := by
  obtain ⟨i, h1, h2⟩ := Option.map_eq_some_iff.1 info_Expr
  simp only [Prod.mk.injEq] at h2
  obtain ⟨hz, hsz, hby⟩ := h2
  have hr := run_make (P := Tryz.prog) w 34 44 i _ Tryz.underlying34 h1 hz .i64 .i64 (len : Int) (len : Int) (by omega) (by omega) (by rw [hby]; omega) (by omega)
  rw [Int.toNat_natCast, hsz] at hr
  exact ⟨_, _, hr, bAl (Below.refl _ _) _, RowIs.new _ _ _, size_madeCells _ _⟩
def FilledExpr (C : Array Value) (l : List ExprT) (k : Nat) : Prop := ∀ i (h : i < l.length), i < k → C[i * 7]? = some (.int .i64 l[i].f0) ∧ C[i * 7 + 1]? = some (.string l[i].f1) ∧ C[i * 7 + 2]? = some (.int .i64 l[i].f2) ∧ C[i * 7 + 3]? = some (.int .i64 l[i].f3) ∧ C[i * 7 + 4]? = some (.string l[i].f4) ∧ C[i * 7 + 5]? = some (.string l[i].f5) ∧ C[i * 7 + 6]? = some (.int .i64 l[i].f6)
def setExpr (C : Array Value) (k : Nat) (x : ExprT) : Array Value := (((((((C.setIfInBounds (k * 7) (.int .i64 x.f0)).setIfInBounds (k * 7 + 1) (.string x.f1)).setIfInBounds (k * 7 + 2) (.int .i64 x.f2)).setIfInBounds (k * 7 + 3) (.int .i64 x.f3)).setIfInBounds (k * 7 + 4) (.string x.f4)).setIfInBounds (k * 7 + 5) (.string x.f5)).setIfInBounds (k * 7 + 6) (.int .i64 x.f6))
theorem size_setExpr (C : Array Value) (k : Nat) (x : ExprT) : (setExpr C k x).size = C.size := by simp [setExpr]
theorem FilledExpr.set {C : Array Value} {l : List ExprT} {k : Nat} (h : FilledExpr C l k) (hk : k < l.length) (hC : C.size = l.length * 7) : FilledExpr (setExpr C k l[k]) l (k + 1) := by
  intro i hi hik
  unfold setExpr
  by_cases e : i = k
  · subst e
    have s0 : i * 7 < C.size := by omega
    have s1 : i * 7 + 1 < C.size := by omega
    have s2 : i * 7 + 2 < C.size := by omega
    have s3 : i * 7 + 3 < C.size := by omega
    have s4 : i * 7 + 4 < C.size := by omega
    have s5 : i * 7 + 5 < C.size := by omega
    have s6 : i * 7 + 6 < C.size := by omega
    simp [s0, s1, s2, s3, s4, s5, s6]
  · have := h i hi (by omega)
    simp only [Array.getElem?_setIfInBounds]
    repeat rw [if_neg (by omega)]
    exact this
theorem FilledExpr.row {w : World} {b : Nat} {C : Array Value} {T : TypeId} {l : List ExprT} (h : FilledExpr C l l.length) (hr : RowIs w b C T) : ExprRow w b 0 l :=
  ⟨hr.lt, fun i hi => by rw [Nat.zero_add, hr.cell]; exact (h i hi hi).1, fun i hi => by rw [Nat.zero_add, hr.cell]; exact (h i hi hi).2.1, fun i hi => by rw [Nat.zero_add, hr.cell]; exact (h i hi hi).2.2.1, fun i hi => by rw [Nat.zero_add, hr.cell]; exact (h i hi hi).2.2.2.1, fun i hi => by rw [Nat.zero_add, hr.cell]; exact (h i hi hi).2.2.2.2.1, fun i hi => by rw [Nat.zero_add, hr.cell]; exact (h i hi hi).2.2.2.2.2.1, fun i hi => by rw [Nat.zero_add, hr.cell]; exact (h i hi hi).2.2.2.2.2.2⟩
set_option maxRecDepth 100000 in
set_option maxHeartbeats 1000000 in
theorem toExprS_own (a : Option Addr) (len cap : Nat) (l : List ExprT) (w : World) (hl : len ≤ 1048576) (hs : SlExpr w a len l) :
    Calls Tryz.prog 16 #[.slice a len cap] w fun e w' => e = .returned (.slice (some ⟨w.heap.size, 0, none⟩) len len) ∧ (∃ C, RowIs w' w.heap.size C 44 ∧ C.size = len * 7 ∧ ExprRow w' w.heap.size 0 l) ∧ Below w.heap.size w w' := by
  obtain ⟨w1, C1, hrun, hb1, hr1, hC1⟩ := make_Expr len w hl
  have HS := hide hs
  have HB1 := hide hb1
  have HR1 := hide hr1
  clear hs hb1 hr1
  go_enter Tryz.func16, Tryz.ntmps16
  go_wp2
  clear hrun
  go_loopw [4] (fun i w' => ∃ (k : Nat) (C : Array Value), k ≤ len ∧ i = .int .i64 k ∧ Hid (Below w.heap.size w w') ∧ Hid (RowIs w' w.heap.size C 44) ∧ Hid (C.size = len * 7) ∧ Hid (FilledExpr C l k)) (fun i _ => len - (Go.RowKit.intOf i).toNat)
  case atStart => exact ⟨0, C1, Nat.zero_le _, rfl, HB1, HR1, hide hC1, hide (fun i _ h => absurd h (Nat.not_lt_zero _))⟩
  case round =>
    obtain ⟨k, C, hk, rfl, hb, hr, hC, hF⟩ := hrel
    by_cases hlt : k < len
    · obtain ⟨b, off, rfl, hrow⟩ := ((unhide HS).keep (unhide hb)).at hlt
      have hk' : k < l.length := by rw [← (unhide HS).1]; exact hlt
      have c0 := hrow.c0 k hk'
      have c1 := hrow.c1 k hk'
      have c2 := hrow.c2 k hk'
      have c3 := hrow.c3 k hk'
      have c4 := hrow.c4 k hk'
      have c5 := hrow.c5 k hk'
      have c6 := hrow.c6 k hk'
      have hF' := hide ((unhide hF).set hk' (by rw [unhide hC, (unhide HS).1]))
      clear hrow hC1
      generalize l[k] = A at c0 c1 c2 c3 c4 c5 c6 hF'
      go_wp2_with fail
      refine (toExpr_any A.f0 A.f1 A.f2 A.f3 A.f4 A.f5 A.f6 _).mono ?_
      rintro e w2 ⟨rfl, hb2⟩
      replace hr := hide ((unhide hr).keep hb2)
      replace hb := hide (bTr (unhide hb) hb2)
      have s9 : k * 7 + 6 < C.size := by rw [unhide hC]; omega
      obtain ⟨D0, d0⟩ : ∃ D, C[k * 7]? = some D := ⟨_, Array.getElem?_eq_getElem (by omega)⟩
      have g0 := (unhide hr).at d0
      have y0 := (unhide hr).froz (k * 7)
      clear d0
      obtain ⟨D1, d1⟩ : ∃ D, C[k * 7 + 1]? = some D := ⟨_, Array.getElem?_eq_getElem (by omega)⟩
      have g1 := (unhide hr).at d1
      have y1 := (unhide hr).froz (k * 7 + 1)
      clear d1
      obtain ⟨D2, d2⟩ : ∃ D, C[k * 7 + 2]? = some D := ⟨_, Array.getElem?_eq_getElem (by omega)⟩
      have g2 := (unhide hr).at d2
      have y2 := (unhide hr).froz (k * 7 + 2)
      clear d2
      obtain ⟨D3, d3⟩ : ∃ D, C[k * 7 + 3]? = some D := ⟨_, Array.getElem?_eq_getElem (by omega)⟩
      have g3 := (unhide hr).at d3
      have y3 := (unhide hr).froz (k * 7 + 3)
      clear d3
      obtain ⟨D4, d4⟩ : ∃ D, C[k * 7 + 4]? = some D := ⟨_, Array.getElem?_eq_getElem (by omega)⟩
      have g4 := (unhide hr).at d4
      have y4 := (unhide hr).froz (k * 7 + 4)
      clear d4
      obtain ⟨D5, d5⟩ : ∃ D, C[k * 7 + 5]? = some D := ⟨_, Array.getElem?_eq_getElem (by omega)⟩
      have g5 := (unhide hr).at d5
      have y5 := (unhide hr).froz (k * 7 + 5)
      clear d5
      obtain ⟨D6, d6⟩ : ∃ D, C[k * 7 + 6]? = some D := ⟨_, Array.getElem?_eq_getElem (by omega)⟩
      have g6 := (unhide hr).at d6
      have y6 := (unhide hr).froz (k * 7 + 6)
      clear d6
      clear c0 c1 c2 c3 c4 c5 c6 hb2
      go_wp2_with fail
      refine ⟨⟨k + 1, setExpr C k A, by omega, by go_num, hide ?_, hide ?_, hide (by rw [size_setExpr]; exact unhide hC), hF'⟩, by simp [Go.RowKit.intOf]; omega⟩
      · repeat refine bStExpr ?_ _ _ (Nat.le_refl _) _
        exact unhide hb
      · exact (((((((unhide hr).set _ _).set _ _).set _ _).set _ _).set _ _).set _ _).set _ _
    · go_wp2_with fail
      go_ret
      have e : k = l.length := by rw [← (unhide HS).1]; omega
      exact ⟨rfl, ⟨C, unhide hr, unhide hC, FilledExpr.row (by rw [← e]; exact unhide hF) (unhide hr)⟩, unhide hb⟩
set_option maxHeartbeats 1000000 in
theorem eqExprS_same (a1 a2 : Option Addr) (len1 c1 len2 c2 : Nat) (l : List ExprT) (w : World) (h1 : SlExpr w a1 len1 l) (h2 : SlExpr w a2 len2 l) (hm : len1 ≤ maxLen) :
    Calls Tryz.prog 22 #[.slice a1 len1 c1, .slice a2 len2 c2] w fun e w' => e = .returned (.bool true) ∧ Below w.heap.size w w' := by
  unfold maxLen at hm
  obtain rfl : len1 = len2 := by rw [h1.1, h2.1]
  have H1 := hide h1
  have H2 := hide h2
  clear h1 h2
  go_enter Tryz.func22, Tryz.ntmps22
  go_wp2
  go_loopw [5] (fun i w' => ∃ k : Nat, k ≤ len1 ∧ i = .int .i64 k ∧ Below w.heap.size w w') (fun i _ => len1 - (Go.RowKit.intOf i).toNat)
  case atStart => exact ⟨0, Nat.zero_le _, rfl, Below.refl _ _⟩
  case round =>
    obtain ⟨k, hk, rfl, hbel⟩ := hrel
    by_cases hlt : k < len1
    · have g1 := hide ((unhide H1).keep hbel)
      have g2 := hide ((unhide H2).keep hbel)
      have hk' : k < l.length := by rw [← (unhide H1).1]; exact hlt
      obtain ⟨b, off, rfl, r1⟩ := (unhide g1).at hlt
      obtain ⟨b', off', rfl, r2⟩ := (unhide g2).at hlt
      have p0 := r1.c0 k hk'
      have p1 := r1.c1 k hk'
      have p2 := r1.c2 k hk'
      have p3 := r1.c3 k hk'
      have p4 := r1.c4 k hk'
      have p5 := r1.c5 k hk'
      have p6 := r1.c6 k hk'
      have q0 := r2.c0 k hk'
      have q1 := r2.c1 k hk'
      have q2 := r2.c2 k hk'
      have q3 := r2.c3 k hk'
      have q4 := r2.c4 k hk'
      have q5 := r2.c5 k hk'
      have q6 := r2.c6 k hk'
      have z1 := r1.z
      have z2 := r2.z
      clear r1 r2 g1 g2
      generalize l[k] = A at p0 p1 p2 p3 p4 p5 p6 q0 q1 q2 q3 q4 q5 q6
      have ne : Nonempty (Kept wr) := ⟨⟨wr, Below.refl _ _⟩⟩
      have x0 := kept_cell z1 p0
      have x1 := kept_cell z1 p1
      have x2 := kept_cell z1 p2
      have x3 := kept_cell z1 p3
      have x4 := kept_cell z1 p4
      have x5 := kept_cell z1 p5
      have x6 := kept_cell z1 p6
      have y0 := kept_cell z2 q0
      have y1 := kept_cell z2 q1
      have y2 := kept_cell z2 q2
      have y3 := kept_cell z2 q3
      have y4 := kept_cell z2 q4
      have y5 := kept_cell z2 q5
      have y6 := kept_cell z2 q6
      have i0 : (0 : Int) ≤ (k : Int) := by omega
      have i1 : (k : Int) < (len1 : Int) := by omega
      go_wp2_with fail
      refine wp_region_kept (by kernel_rfl) (by kernel_rfl) ?_
      repeat (first
        | go_big_quiet_step ((go_at_call 43; exact kept_call (eqExpr_same _ _ _ _ _ _ _ _)))
        | quiet_step ((go_at_call 43; exact kept_call (eqExpr_same _ _ _ _ _ _ _ _))))
      refine wpQuiet_nil ?_
      rintro _ ⟨q, rfl⟩
      clear ne x0 x1 x2 x3 x4 x5 x6 y0 y1 y2 y3 y4 y5 y6
      obtain ⟨w3, hb3⟩ := q
      go_wp2_with fail
      exact ⟨⟨k + 1, by omega, by go_num, bTr hbel hb3⟩, by simp [Go.RowKit.intOf]; omega⟩
    · go_wp2_with fail
      go_ret
      exact ⟨rfl, hbel⟩
def ExprsV (l : List ExprT) : List Value := l.flatMap encExpr
theorem ExprsV_snoc (l : List ExprT) (c : ExprT) : ExprsV (l ++ [c]) = ExprsV l ++ encExpr c := by simp [ExprsV]
theorem encExpr_one (c : ExprT) : ∀ x ∈ encExpr c, x.oneCell' = true := by
  intro x hx
  simp [encExpr] at hx
  rcases hx with rfl | rfl | rfl | rfl | rfl | rfl | rfl <;> rfl
theorem ExprsV_get : ∀ (l : List ExprT) (i : Nat) (h : i < l.length) (j : Nat) (v : Value), (encExpr l[i])[j]? = some v → (ExprsV l)[i * 7 + j]? = some v
  | [], i, h, _, _, _ => absurd h (Nat.not_lt_zero _)
  | c :: l, 0, _, j, v, hv => by
    have hj := (List.getElem?_eq_some_iff.1 hv).1
    have e : ExprsV (c :: l) = encExpr c ++ ExprsV l := by simp [ExprsV]
    rw [e, List.getElem?_append_left (by simpa using hj)]
    simpa using hv
  | c :: l, i + 1, h, j, v, hv => by
    have e : ExprsV (c :: l) = encExpr c ++ ExprsV l := by simp [ExprsV]
    have hl : (encExpr c).length = 7 := rfl
    rw [e, List.getElem?_append_right (by rw [hl]; omega), hl, show (i + 1) * 7 + j - 7 = i * 7 + j by omega]
    exact ExprsV_get l i (by simpa using h) j v (by simpa using hv)
theorem own_Expr {w : World} {base : Nat} {v : Value} {l : List ExprT} (h : w.ownsRow base 44 7 v l.length (ExprsV l)) : ∃ a cap, v = .slice a l.length cap ∧ SlExpr w a l.length l := by
  rcases h.2 with ⟨rfl, e⟩ | ⟨g, cap, cur, rfl, _, hh, _, _, hsz, htk⟩
  · have : l = [] := List.length_eq_zero_iff.1 e
    subst this
    exact ⟨none, 0, rfl, rfl, .inl rfl⟩
  · have hr : RowIs w g cur 44 := hh
    have hc : ∀ i (hi : i < l.length) j u, (encExpr l[i])[j]? = some u → w.cell? ⟨g, 0 + i * 7 + j, none⟩ = some u := fun i hi j u hu => by
      have hu2 := ExprsV_get l i hi j u hu
      rw [← htk, List.getElem?_take] at hu2
      rw [Nat.zero_add, hr.cell, ← Array.getElem?_toList]
      split at hu2
      · exact hu2
      · cases hu2
    exact ⟨_, _, rfl, rfl, .inr ⟨g, 0, rfl, hr.lt, fun i hi => hc i hi 0 _ rfl, fun i hi => hc i hi 1 _ rfl, fun i hi => hc i hi 2 _ rfl, fun i hi => hc i hi 3 _ rfl, fun i hi => hc i hi 4 _ rfl, fun i hi => hc i hi 5 _ rfl, fun i hi => hc i hi 6 _ rfl⟩⟩
theorem eqOwnExpr {w : World} {b1 b2 : Nat} {v1 v2 : Value} {l : List ExprT} (h1 : w.ownsRow b1 44 7 v1 l.length (ExprsV l)) (h2 : w.ownsRow b2 44 7 v2 l.length (ExprsV l)) (hl : l.length ≤ 1000000) :
    Calls Tryz.prog 22 #[v1, v2] w fun e w' => e = .returned (.bool true) ∧ Below w.heap.size w w' := by
  obtain ⟨a1, c1, rfl, s1⟩ := own_Expr h1
  obtain ⟨a2, c2, rfl, s2⟩ := own_Expr h2
  exact eqExprS_same a1 a2 l.length c1 l.length c2 l w s1 s2 (by unfold maxLen; omega)
theorem listnExpr {α : Type} {l : List α} (h : l.length = 7) : ∃ a0 a1 a2 a3 a4 a5 a6, l = [a0, a1, a2, a3, a4, a5, a6] := by
  match l, h with
  | [a0, a1, a2, a3, a4, a5, a6], _ => exact ⟨a0, a1, a2, a3, a4, a5, a6, rfl⟩
section
variable {H : Type} {enc : TypeId × Value → H} {w : World} {base : Nat} {sp : Nat → Bool} {held : Bool}
theorem addr_Expr (b off k : Nat) : (⟨b, off, none⟩ : Addr).add k = ⟨b, off + k, none⟩ := by
  unfold Addr.add; split <;> simp_all
set_option maxRecDepth 100000 in
theorem read_Expr {n : Nat} {cs : List Value} {x : DataW H × List MemPlace} (h : DataW.trod enc Tryz.prog w base sp held n 64 cs = some x) : ∃ A : ExprT, cs = [.int .i64 A.f0, .string A.f1, .int .i64 A.f2, .int .i64 A.f3, .string A.f4, .string A.f5, .int .i64 A.f6] ∧ A.Ok := by
  obtain ⟨xs, m, rfl, _, hlen, hx, hf⟩ := DataW.trod_struct Tryz.underlying64 h
  have hc : Tryz.prog.cellsOf 64 = 7 := by kernel_rfl
  have k9 : Tryz.prog.cellsOf 9 = 1 := by kernel_rfl
  have k3 : Tryz.prog.cellsOf 3 = 1 := by kernel_rfl
  have kA : Tryz.prog.cellsOf 23 = 4 := by kernel_rfl
  obtain ⟨c0, c1, c2, c3, c4, c5, c6, rfl⟩ := listnExpr (hlen.trans hc)
  obtain ⟨x0, x1, x2, x3, rfl⟩ := list4 hx
  have h0 : DataW.trod enc Tryz.prog w base sp held m 3 [c0] = some x0 := by have := hf 0 _ rfl; simpa [k9, k3, kA] using this
  have h1 : DataW.trod enc Tryz.prog w base sp held m 9 [c1] = some x1 := by have := hf 1 _ rfl; simpa [k9, k3, kA] using this
  have h2 : DataW.trod enc Tryz.prog w base sp held m 23 [c2, c3, c4, c5] = some x2 := by have := hf 2 _ rfl; simpa [k9, k3, kA] using this
  have h3 : DataW.trod enc Tryz.prog w base sp held m 3 [c6] = some x3 := by have := hf 3 _ rfl; simpa [k9, k3, kA] using this
  obtain ⟨y0, e0, _, ok0⟩ := DataW.trod_int Tryz.underlying3 h0
  obtain ⟨y1, e1, _, ok1⟩ := DataW.trod_string Tryz.underlying9 h1
  obtain ⟨B, e2, okB⟩ := read_atom h2
  obtain ⟨y3, e3, _, ok3⟩ := DataW.trod_int Tryz.underlying3 h3
  simp at e0 e1 e2 e3
  subst e0 e1 e3
  obtain ⟨rfl, rfl, rfl, rfl⟩ := e2
  exact ⟨⟨y0, y1, B.x, B.n, B.t, B.y, y3⟩, rfl, ⟨ok0, ok1, okB.n8, okB.n9, okB.t9, okB.y9, ok3⟩⟩
set_option maxRecDepth 100000 in
theorem reads_Expr {n len cap : Nat} {a : Option Addr} {x : DataW H × List MemPlace} (h : DataW.trod enc Tryz.prog w base sp held n 26 [.slice a len cap] = some x) :
    ∃ l : List ExprT, SlExpr w a len l ∧ (∀ q ∈ l, ExprT.Ok q) ∧ len ≤ maxLen := by
  have hc : Tryz.prog.cellsOf 64 = 7 := by kernel_rfl
  rcases Go.Deep.open_slice Tryz.underlying26 h with ⟨hcs, _⟩ | ⟨a', len', cap', m, n', D, Pl, hcs, _, hl, hm, hmm, _, hel⟩
  · simp at hcs
    obtain ⟨rfl, rfl, rfl⟩ := hcs
    exact ⟨[], ⟨rfl, .inl rfl⟩, by simp, Nat.zero_le _⟩
  · simp at hcs
    obtain ⟨rfl, rfl, rfl⟩ := hcs
    have hlm : len ≤ m := by rw [hmm]; split <;> omega
    by_cases h0 : len = 0
    · subst h0; exact ⟨[], ⟨rfl, .inl rfl⟩, by simp, Nat.zero_le _⟩
    have hspot : a'.spot = none := by
      obtain ⟨cs', h1, h2⟩ := hel 0 (by omega)
      rw [hc] at h1
      obtain ⟨A, rfl, _⟩ := read_Expr h2
      have e0 := (World.cells?_some h1).2.2 0 (by omega)
      simp [Addr.add] at e0
      exact World.cell?_spot e0
    obtain ⟨b, off, spot⟩ := a'
    simp only at hspot
    subst hspot
    have hA : ∀ i, i < len → ∃ A : ExprT, A.Ok ∧ (w.cell? ⟨b, off + i * 7, none⟩ = some (.int .i64 A.f0) ∧ w.cell? ⟨b, off + i * 7 + 1, none⟩ = some (.string A.f1) ∧ w.cell? ⟨b, off + i * 7 + 2, none⟩ = some (.int .i64 A.f2) ∧ w.cell? ⟨b, off + i * 7 + 3, none⟩ = some (.int .i64 A.f3) ∧ w.cell? ⟨b, off + i * 7 + 4, none⟩ = some (.string A.f4) ∧ w.cell? ⟨b, off + i * 7 + 5, none⟩ = some (.string A.f5) ∧ w.cell? ⟨b, off + i * 7 + 6, none⟩ = some (.int .i64 A.f6)) ∧ b < w.heap.size := by
      intro i hi
      obtain ⟨cs', h1, h2⟩ := hel i (by omega)
      rw [hc, addr_Expr] at h1
      obtain ⟨A, rfl, hok⟩ := read_Expr h2
      have h3 := (World.cells?_some h1).2.2
      have e0 := h3 0 (by omega)
      have e1 := h3 1 (by omega)
      have e2 := h3 2 (by omega)
      have e3 := h3 3 (by omega)
      have e4 := h3 4 (by omega)
      have e5 := h3 5 (by omega)
      have e6 := h3 6 (by omega)
      rw [addr_Expr] at e0 e1 e2 e3 e4 e5 e6
      exact ⟨A, hok, ⟨e0, e1, e2, e3, e4, e5, e6⟩, World.block_lt_of_cell? w ⟨b, off + i * 7 + 0, none⟩ e0⟩
    obtain ⟨f, hf⟩ := @Go.Deep.choose_lt ExprT ⟨⟨0, ⟨#[]⟩, 0, 0, ⟨#[]⟩, ⟨#[]⟩, 0⟩⟩ len (fun i A => A.Ok ∧ (w.cell? ⟨b, off + i * 7, none⟩ = some (.int .i64 A.f0) ∧ w.cell? ⟨b, off + i * 7 + 1, none⟩ = some (.string A.f1) ∧ w.cell? ⟨b, off + i * 7 + 2, none⟩ = some (.int .i64 A.f2) ∧ w.cell? ⟨b, off + i * 7 + 3, none⟩ = some (.int .i64 A.f3) ∧ w.cell? ⟨b, off + i * 7 + 4, none⟩ = some (.string A.f4) ∧ w.cell? ⟨b, off + i * 7 + 5, none⟩ = some (.string A.f5) ∧ w.cell? ⟨b, off + i * 7 + 6, none⟩ = some (.int .i64 A.f6)) ∧ b < w.heap.size) hA
    refine ⟨(List.range len).map f, ⟨by simp, .inr ⟨b, off, rfl, (hf 0 (by omega)).2.2, fun i hi => ?_, fun i hi => ?_, fun i hi => ?_, fun i hi => ?_, fun i hi => ?_, fun i hi => ?_, fun i hi => ?_⟩⟩, ?_, by omega⟩
    · simp at hi
      have := (hf i hi).2.1.1
      simpa using this
    · simp at hi
      have := (hf i hi).2.1.2.1
      simpa using this
    · simp at hi
      have := (hf i hi).2.1.2.2.1
      simpa using this
    · simp at hi
      have := (hf i hi).2.1.2.2.2.1
      simpa using this
    · simp at hi
      have := (hf i hi).2.1.2.2.2.2.1
      simpa using this
    · simp at hi
      have := (hf i hi).2.1.2.2.2.2.2.1
      simpa using this
    · simp at hi
      have := (hf i hi).2.1.2.2.2.2.2.2
      simpa using this
    · intro q hq
      simp at hq
      obtain ⟨i, hi, rfl⟩ := hq
      exact (hf i hi).1
set_option maxRecDepth 100000 in
/-- A slice that came in. -/
theorem read_Exprs {r : Reach} {b0 : Nat} {v0 : Value} {d : DataW H} {p : List MemPlace} (hv : Value.okWide Tryz.prog w r b0 26 v0) (h : DataW.Trod enc Tryz.prog w base sp held 26 v0 d p) :
    ∃ (l : List ExprT) (a : Option Addr) (len cap : Nat), v0 = .slice a len cap ∧ SlExpr w a len l ∧ (∀ q ∈ l, ExprT.Ok q) ∧ len ≤ maxLen := by
  obtain ⟨fuel, hf0⟩ := h
  obtain ⟨a, len, cap, rfl⟩ := okWide_slice Tryz.underlying26 hv
  obtain ⟨l, h1, h2, h3⟩ := reads_Expr hf0
  exact ⟨l, a, len, cap, rfl, h1, h2, h3⟩
end
end Go.Proofs.YteaidfighimoiaaGreat.V
