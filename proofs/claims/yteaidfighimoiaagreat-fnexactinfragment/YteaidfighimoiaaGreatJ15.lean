/- YTre, YTrf, one behind the other. -/
import Derived.Test.YteaidfighimoiaaGreatJ11
import Derived.Test.YteaidfighimoiaaGreatJ14
import Derived.Maps.AppendAt
import Derived.Deep.RegionHeld3
import Derived.BigQuiet
/- impl.setExprOf, exprTreeOf: which trees they answer with. -/
namespace Go.Proofs.YteaidfighimoiaaGreat.V
open Go.RowKit Go.Maps

/-- What a node's tree is: an ExprLit's holds its atom. -/
def Tag (x : ExprT) (v : Value) : Prop :=
  (x.f0 = 1 ∧ v = .iface 76 (.agg #[.int .i64 x.f2, .int .i64 x.f3, .string x.f4, .string x.f5])) ∨
  (x.f0 ≠ 1 ∧ ∃ u, v = .iface 112 u ∨ v = .iface 78 u ∨ v = .iface 81 u ∨ v = .iface 83 u ∨ v = .iface 93 u ∨ v = .iface 85 u ∨ v = .iface 119 u)
structure IfRow (w : World) (b off : Nat) (vs : List Value) : Prop where
  z : b < w.heap.size
  c : ∀ i (h : i < vs.length), w.cell? ⟨b, off + i, none⟩ = some vs[i]
theorem IfRow.keep {w w1 : World} {b off : Nat} {l : List Value} (h : IfRow w b off l) (hb : Below w.heap.size w w1) : IfRow w1 b off l :=
  ⟨Nat.lt_of_lt_of_le h.z hb.size, fun i hi => cellB hb h.z (h.c i hi)⟩
def SlI (w : World) (a : Option Addr) (len : Nat) (l : List Value) : Prop := len = l.length ∧ (l = [] ∨ ∃ b off, a = some ⟨b, off, none⟩ ∧ IfRow w b off l)
theorem SlI.keep {w w1 : World} {a : Option Addr} {len : Nat} {l : List Value} (h : SlI w a len l) (hb : Below w.heap.size w w1) : SlI w1 a len l :=
  ⟨h.1, by
    rcases h.2 with e | ⟨b, off, e, r⟩
    · exact .inl e
    · exact .inr ⟨b, off, e, r.keep hb⟩⟩
theorem SlI.at {w : World} {a : Option Addr} {len : Nat} {l : List Value} (h : SlI w a len l) {k : Nat} (hk : k < len) : ∃ b off, a = some ⟨b, off, none⟩ ∧ IfRow w b off l := by
  rcases h.2 with e | e
  · rw [h.1, e] at hk; simp at hk
  · exact e
/-- Each of the kids is what its node says. -/
def Tags (xs : List ExprT) (vs : List Value) : Prop := vs.length = xs.length ∧ ∀ i (h : i < xs.length) (h' : i < vs.length), Tag xs[i] vs[i]
def aOf (x : ExprT) : AtomT := ⟨x.f2, x.f3, x.f4, x.f5⟩
theorem info_atom : (Tryz.prog.info? 31).map (fun i => (i.zero, i.size, i.bytes)) = some (some (.agg #[.int .i64 0, .int .i64 0, .string ByteArray.empty, .string ByteArray.empty]), 4, 48) := by kernel_rfl

theorem ta_lit (u : Value) (w : World) : (Instr.typeAssert (.iface 76 u) 55 76 true).run Tryz.prog w = .ok (.tuple #[u, .bool true]) w := by kernel_rfl
abbrev zLit : Value := .agg #[.int .i64 0, .int .i64 0, .string ⟨#[]⟩, .string ⟨#[]⟩]
theorem ta_var (u : Value) (w : World) : (Instr.typeAssert (.iface 112 u) 55 76 true).run Tryz.prog w = .ok (.tuple #[zLit, .bool false]) w := by kernel_rfl
theorem ta_get (u : Value) (w : World) : (Instr.typeAssert (.iface 78 u) 55 76 true).run Tryz.prog w = .ok (.tuple #[zLit, .bool false]) w := by kernel_rfl
theorem ta_word (u : Value) (w : World) : (Instr.typeAssert (.iface 81 u) 55 76 true).run Tryz.prog w = .ok (.tuple #[zLit, .bool false]) w := by kernel_rfl
theorem ta_sign (u : Value) (w : World) : (Instr.typeAssert (.iface 83 u) 55 76 true).run Tryz.prog w = .ok (.tuple #[zLit, .bool false]) w := by kernel_rfl
theorem ta_if (u : Value) (w : World) : (Instr.typeAssert (.iface 93 u) 55 76 true).run Tryz.prog w = .ok (.tuple #[zLit, .bool false]) w := by kernel_rfl
theorem ta_pair (u : Value) (w : World) : (Instr.typeAssert (.iface 85 u) 55 76 true).run Tryz.prog w = .ok (.tuple #[zLit, .bool false]) w := by kernel_rfl
theorem ta_set (u : Value) (w : World) : (Instr.typeAssert (.iface 119 u) 55 76 true).run Tryz.prog w = .ok (.tuple #[zLit, .bool false]) w := by kernel_rfl

set_option maxRecDepth 20000 in
set_option maxHeartbeats 1000000 in
theorem setExprOf_any (a : Option Addr) (len cap : Nat) (xs : List ExprT) (vs : List Value) (w : World) (hl : len ≤ 1000) (hs : SlI w a len vs) (ht : Tags xs vs) :
    Calls Tryz.prog 70 #[.slice a len cap] w fun e w' => (((∀ x ∈ xs, x.f0 = 1) ∧ ∃ v, e = .returned (.tuple #[.iface 119 (.agg #[v]), .bool true]) ∧ w'.ownsRow w.heap.size 31 4 v len (atomsV (xs.map aOf))) ∨ ((¬ ∀ x ∈ xs, x.f0 = 1) ∧ e = .returned (.tuple #[.nilIface, .bool false]))) ∧ Below w.heap.size w w' := by
  obtain ⟨i0, hi, hz0, hz1, hz2⟩ := info_parts info_atom
  have HS := hide hs
  have HT := hide ht
  clear hs ht
  go_enter Tryz.func70, Tryz.ntmps70
  go_wp2
  go_loopw [4, 11] (fun v i w' => ∃ (k : Nat), k ≤ len ∧ i = .int .i64 k ∧ Hid (w'.ownsRow w.heap.size 31 4 v k (atomsV ((xs.take k).map aOf))) ∧ Hid (∀ x ∈ xs.take k, x.f0 = 1) ∧ Hid (Below w.heap.size w w')) (fun _ i _ => len - (Go.RowKit.intOf i).toNat)
  case atStart => exact ⟨0, Nat.zero_le _, rfl, hide (by simp [atomsV]; exact World.ownsRow_nil _ _ _ _), hide (by simp), hide (Below.refl _ _)⟩
  case round =>
    obtain ⟨k, hk, rfl, hown, hall, hb⟩ := hrel
    by_cases hlt : k < len
    · obtain ⟨b, off, rfl, hrow⟩ := ((unhide HS).keep (unhide hb)).at hlt
      have hk1 : k < vs.length := by rw [← (unhide HS).1]; exact hlt
      have hk2 : k < xs.length := by rw [← (unhide HT).1]; exact hk1
      have ck := hrow.c k hk1
      have zk := hrow.z
      have tg := (unhide HT).2 k hk2 hk1
      rcases tg with ⟨h1, h2⟩ | ⟨h1, u, h2⟩
      · rw [h2] at ck
        have q := ta_lit (.agg #[.int .i64 xs[k].f2, .int .i64 xs[k].f3, .string xs[k].f4, .string xs[k].f5])
        have hall' := hide (fun (x : ExprT) (hx : x ∈ xs.take (k + 1)) => show x.f0 = 1 by
          rw [List.take_succ_eq_append_getElem hk2, List.mem_append, List.mem_singleton] at hx
          rcases hx with hx | rfl
          · exact unhide hall x hx
          · exact h1)
        have ea : Hid (atomsV ((xs.take (k + 1)).map aOf) = atomsV ((xs.take k).map aOf) ++ cellsA (aOf xs[k])) := hide (by
          rw [List.take_succ_eq_append_getElem hk2, List.map_append, List.map_singleton, atomsV_snoc])
        clear hrow h2 hall h1
        generalize atomsV ((xs.take k).map aOf) = AV at ea hown
        simp only [aOf] at ea
        generalize xs[k] = x at *
        obtain ⟨f0, f1, f2, f3, f4, f5, f6⟩ := x
        simp only at q ck ea
        have t1 := hide (((unhide hown).alloc (.cells #[.int .i64 f2, .int .i64 f3, .string f4, .string f5] 76)).alloc (.cells #[.int .i64 f2, .int .i64 f3, .string f4, .string f5] 31))
        have t2 := hide (cell_four_new (wr.alloc (.cells #[.int .i64 f2, .int .i64 f3, .string f4, .string f5] 76)) (cellsA ⟨f2, f3, f4, f5⟩) 31)
        have es : (wr.alloc (.cells #[.int .i64 f2, .int .i64 f3, .string f4, .string f5] 76)).heap.size = wr.heap.size + 1 := by simp
        rw [es] at t2
        clear es
        have t3 : ∀ u ∈ cellsA ⟨f2, f3, f4, f5⟩, u.oneCell' = true := (fun u hu => by simp [cellsA] at hu; rcases hu with rfl | rfl | rfl | rfl <;> rfl)
        have T3 := hide t3
        have t4 : w.heap.size ≤ ((wr.alloc (.cells #[.int .i64 f2, .int .i64 f3, .string f4, .string f5] 76)).alloc (.cells #[.int .i64 f2, .int .i64 f3, .string f4, .string f5] 31)).heap.size := by have := (unhide hb).size; simp; omega
        have T4 := hide t4
        have t5 : (k + 1) * 48 ≤ 140737488355328 := by omega
        have B3 := hide (bAl (bAl (unhide hb) (.cells #[.int .i64 f2, .int .i64 f3, .string f4, .string f5] 76)) (.cells #[.int .i64 f2, .int .i64 f3, .string f4, .string f5] 31))
        have lt := hide (fun j hj => ((unhide hown).lt j hj).1)
        clear t3 t4 hb hown
        go_wp2_with (at_builtin; refine wpList_append_own_at _ rfl _ _ 117 rfl w.heap.size 31 i0 _ 4 48 Tryz.underlying117 hi hz0 hz1 hz2 rfl (by decide) _ _ _ rfl (unhide t1) ⟨_, 0, none⟩ 1 1 (cellsA ⟨f2, f3, f4, f5⟩) rfl rfl (unhide t2) (unhide T3) (by unfold maxLen; omega) t5 (unhide T4) ?_; intro v3 w3 hown3 hgrow3 _ hat3)
        exact ⟨⟨k + 1, by omega, by go_num, hide (by rw [unhide ea]; exact hown3), hall', hide ((unhide B3).grown hgrow3 (unhide T4) (unhide lt))⟩, by simp [Go.RowKit.intOf]; omega⟩
      · have no : Hid (¬ ∀ x ∈ xs, x.f0 = 1) := hide (fun h => h1 (h _ (List.getElem_mem hk2)))
        clear h1 hall hown hrow
        rcases h2 with h2 | h2 | h2 | h2 | h2 | h2 | h2
        all_goals rw [h2] at ck
        all_goals clear h2
        · have q := ta_var u
          go_wp2_with fail
          go_ret2
          exact ⟨.inr ⟨unhide no, rfl⟩, unhide hb⟩
        · have q := ta_get u
          go_wp2_with fail
          go_ret2
          exact ⟨.inr ⟨unhide no, rfl⟩, unhide hb⟩
        · have q := ta_word u
          go_wp2_with fail
          go_ret2
          exact ⟨.inr ⟨unhide no, rfl⟩, unhide hb⟩
        · have q := ta_sign u
          go_wp2_with fail
          go_ret2
          exact ⟨.inr ⟨unhide no, rfl⟩, unhide hb⟩
        · have q := ta_if u
          go_wp2_with fail
          go_ret2
          exact ⟨.inr ⟨unhide no, rfl⟩, unhide hb⟩
        · have q := ta_pair u
          go_wp2_with fail
          go_ret2
          exact ⟨.inr ⟨unhide no, rfl⟩, unhide hb⟩
        · have q := ta_set u
          go_wp2_with fail
          go_ret2
          exact ⟨.inr ⟨unhide no, rfl⟩, unhide hb⟩
    · have e : k = xs.length := by rw [← (unhide HT).1, ← (unhide HS).1]; omega
      have hall' : Hid (∀ x ∈ xs, x.f0 = 1) := hide (by have := unhide hall; rwa [e, List.take_length] at this)
      have ho : Hid (wr.ownsRow w.heap.size 31 4 u4 len (atomsV (xs.map aOf))) := hide (by
        have h := unhide hown
        have el : k = len := by omega
        subst el
        rwa [e, List.take_length, ← e] at h)
      clear e hall hown
      obtain ⟨av, cv, ev⟩ := own_sl (unhide ho)
      subst ev
      go_wp2_with fail
      go_ret2
      exact ⟨.inl ⟨unhide hall', _, rfl, unhide ho⟩, unhide hb⟩
end Go.Proofs.YteaidfighimoiaaGreat.V
/- impl.exprTreeOf. -/
namespace Go.Proofs.YteaidfighimoiaaGreat.V
open Go.RowKit Go.Maps

def TreeEnd (x : ExprT) (xs : List ExprT) (e : Ending) : Prop :=
  ((x.f0 = 2 → ∀ y ∈ xs, y.f0 = 1) ∧ ∃ v, e = .returned (.tuple #[v, .bool true]) ∧ Tag x v) ∨ ((¬ (x.f0 = 2 → ∀ y ∈ xs, y.f0 = 1)) ∧ e = .returned (.tuple #[.nilIface, .bool false]))
theorem bDrN {B : Nat} {w w' : World} (h : Below B w w') (k : Nat) : Below B w (w'.drewN k) := ⟨h.os, h.tape, h.output, h.size, h.block⟩
theorem TreeEnd.lit {x : ExprT} {xs : List ExprT} (h : x.f0 = 1) : TreeEnd x xs (.returned (.tuple #[.iface 76 (.agg #[.int .i64 x.f2, .int .i64 x.f3, .string x.f4, .string x.f5]), .bool true])) :=
  .inl ⟨fun h2 => by omega, _, rfl, .inl ⟨h, rfl⟩⟩

set_option maxRecDepth 20000 in
set_option maxHeartbeats 1000000 in
theorem exprTreeOf_plain (x : ExprT) (a : Option Addr) (len cap : Nat) (xs : List ExprT) (vs : List Value) (w : World) (hk : x.f0 = 1 ∨ x.f0 = 3 ∨ x.f0 = 2) (hl : len ≤ 1000) (hs : SlI w a len vs) (ht : Tags xs vs) :
    Calls Tryz.prog 58 #[eAgg x, .slice a len cap] w fun e w' => TreeEnd x xs e ∧ Below w.heap.size w w' := by
  obtain ⟨f0, f1, f2, f3, f4, f5, f6⟩ := x
  rcases hk with rfl | rfl | rfl
  · go_enter Tryz.func58, Tryz.ntmps58
    go_wp2_with fail
    go_ret2
    exact ⟨TreeEnd.lit rfl, bAl (Below.refl _ _) _⟩
  · go_enter Tryz.func58, Tryz.ntmps58
    go_wp2_with fail
    go_ret2
    exact ⟨.inl ⟨fun h => by simp at h, _, rfl, .inr ⟨by simp, _, .inl rfl⟩⟩, bAl (Below.refl _ _) _⟩
  · have q := hide (fun w hs => setExprOf_any a len cap xs vs w hl hs ht)
    have HS := hide hs
    clear hs ht
    go_enter Tryz.func58, Tryz.ntmps58
    go_wp2_with fail
    refine (unhide q _ ((unhide HS).keep (bAl (Below.refl _ _) _))).mono ?_
    rintro e w1 ⟨(⟨h1, v, rfl, ho⟩ | ⟨h1, rfl⟩), hb1⟩
    · have H1 := hide h1
      clear h1 q HS
      go_wp2_with fail
      go_ret2
      exact ⟨.inl ⟨fun _ => unhide H1, _, rfl, .inr ⟨by simp, _, .inr (.inr (.inr (.inr (.inr (.inr rfl)))))⟩⟩, bTr (bAl (Below.refl _ _) _) hb1⟩
    · have H1 := hide h1
      clear h1 q HS
      go_wp2_with fail
      go_ret2
      exact ⟨.inr ⟨fun h => unhide H1 (h rfl), rfl⟩, bTr (bAl (Below.refl _ _) _) hb1⟩

theorem TreeEnd.one {x : ExprT} {xs : List ExprT} {v : Value} (h1 : x.f0 ≠ 1) (h2 : x.f0 ≠ 2) (h : ∃ u, v = .iface 112 u ∨ v = .iface 78 u ∨ v = .iface 81 u ∨ v = .iface 83 u ∨ v = .iface 93 u ∨ v = .iface 85 u ∨ v = .iface 119 u) : TreeEnd x xs (.returned (.tuple #[v, .bool true])) :=
  .inl ⟨fun h' => absurd h' h2, v, rfl, .inr ⟨h1, h⟩⟩

set_option maxRecDepth 20000 in
set_option maxHeartbeats 1000000 in
theorem exprTreeOf_get (x : ExprT) (b off : Nat) (len cap : Nat) (xs : List ExprT) (T : TypeId) (u : Value) (w : World) (hk : x.f0 = 4 ∨ x.f0 = 5 ∨ x.f0 = 20 ∨ x.f0 = 21 ∨ x.f0 = 6 ∨ x.f0 = 7) (h1 : 1 ≤ len) (hz : b < w.heap.size) (hs : w.cell? ⟨b, off, none⟩ = some (.iface T u)) :
    Calls Tryz.prog 58 #[eAgg x, .slice (some ⟨b, off, none⟩) len cap] w fun e w' => TreeEnd x xs e ∧ Below w.heap.size w w' := by
  obtain ⟨f0, f1, f2, f3, f4, f5, f6⟩ := x
  have c0 : (w.alloc (.cells #[.int .i64 f0, .string f1, .int .i64 f2, .int .i64 f3, .string f4, .string f5, .int .i64 f6] 44)).cell? ⟨b, off, none⟩ = some (.iface T u) := cellB (bAl (Below.refl _ _) _) hz hs
  have hp : 0 < len := h1
  clear hs h1
  rcases hk with rfl | rfl | rfl | rfl | rfl | rfl
  all_goals go_enter Tryz.func58, Tryz.ntmps58
  all_goals go_wp2_with fail
  all_goals go_quiet (fail)
  all_goals go_wp2_with fail
  all_goals go_ret2
  · exact ⟨TreeEnd.one (by simp) (by simp) ⟨_, .inr (.inl rfl)⟩, bDrN (bAl (Below.refl _ _) _) _⟩
  · exact ⟨TreeEnd.one (by simp) (by simp) ⟨_, .inr (.inr (.inl rfl))⟩, bDrN (bAl (Below.refl _ _) _) _⟩
  · exact ⟨TreeEnd.one (by simp) (by simp) ⟨_, .inr (.inr (.inl rfl))⟩, bDrN (bAl (Below.refl _ _) _) _⟩
  · exact ⟨TreeEnd.one (by simp) (by simp) ⟨_, .inr (.inr (.inl rfl))⟩, bDrN (bAl (Below.refl _ _) _) _⟩
  · exact ⟨TreeEnd.one (by simp) (by simp) ⟨_, .inr (.inr (.inr (.inl rfl)))⟩, bDrN (bAl (Below.refl _ _) _) _⟩
  · exact ⟨TreeEnd.one (by simp) (by simp) ⟨_, .inr (.inr (.inr (.inl rfl)))⟩, bDrN (bAl (Below.refl _ _) _) _⟩

set_option maxRecDepth 20000 in
set_option maxHeartbeats 1000000 in
theorem exprTreeOf_if (x : ExprT) (b off : Nat) (len cap : Nat) (xs : List ExprT) (T0 T1 T2 : TypeId) (u0 u1 u2 : Value) (w : World) (hk : x.f0 = 10) (hl : len ≤ 1000) (h1 : 3 ≤ len) (hz : b < w.heap.size) (hs0 : w.cell? ⟨b, off, none⟩ = some (.iface T0 u0)) (hs1 : w.cell? ⟨b, off + 1, none⟩ = some (.iface T1 u1)) (hs2 : w.cell? ⟨b, off + 2, none⟩ = some (.iface T2 u2)) :
    Calls Tryz.prog 58 #[eAgg x, .slice (some ⟨b, off, none⟩) len cap] w fun e w' => TreeEnd x xs e ∧ Below w.heap.size w w' := by
  obtain ⟨f0, f1, f2, f3, f4, f5, f6⟩ := x
  simp only at hk
  subst hk
  have c0 : (w.alloc (.cells #[.int .i64 10, .string f1, .int .i64 f2, .int .i64 f3, .string f4, .string f5, .int .i64 f6] 44)).cell? ⟨b, off, none⟩ = some (.iface T0 u0) := cellB (bAl (Below.refl _ _) _) hz hs0
  have c1 : (w.alloc (.cells #[.int .i64 10, .string f1, .int .i64 f2, .int .i64 f3, .string f4, .string f5, .int .i64 f6] 44)).cell? ⟨b, off + 1, none⟩ = some (.iface T1 u1) := cellB (bAl (Below.refl _ _) _) hz hs1
  have c2 : (w.alloc (.cells #[.int .i64 10, .string f1, .int .i64 f2, .int .i64 f3, .string f4, .string f5, .int .i64 f6] 44)).cell? ⟨b, off + 2, none⟩ = some (.iface T2 u2) := cellB (bAl (Below.refl _ _) _) hz hs2
  have hp0 : 0 < len := by omega
  have hp1 : 1 < len := by omega
  have hp2 : 2 < len := by omega
  clear hs0 hs1 hs2 h1
  go_enter Tryz.func58, Tryz.ntmps58
  go_wp2_with fail
  go_quiet (fail)
  go_wp2_with fail
  go_ret2
  exact ⟨TreeEnd.one (by simp) (by simp) ⟨_, .inr (.inr (.inr (.inr (.inl rfl))))⟩, bDrN (bAl (Below.refl _ _) _) _⟩

set_option maxRecDepth 20000 in
set_option maxHeartbeats 1000000 in
theorem exprTreeOf_pair (x : ExprT) (b off : Nat) (len cap : Nat) (xs : List ExprT) (T0 T1 : TypeId) (u0 u1 : Value) (w : World) (hk : 8 ≤ x.f0 ∧ x.f0 ≤ 19 ∧ x.f0 ≠ 10) (hl : len ≤ 1000) (h1 : 2 ≤ len) (hz : b < w.heap.size) (hs0 : w.cell? ⟨b, off, none⟩ = some (.iface T0 u0)) (hs1 : w.cell? ⟨b, off + 1, none⟩ = some (.iface T1 u1)) :
    Calls Tryz.prog 58 #[eAgg x, .slice (some ⟨b, off, none⟩) len cap] w fun e w' => TreeEnd x xs e ∧ Below w.heap.size w w' := by
  obtain ⟨f0, f1, f2, f3, f4, f5, f6⟩ := x
  simp only at hk
  have c0 : (w.alloc (.cells #[.int .i64 f0, .string f1, .int .i64 f2, .int .i64 f3, .string f4, .string f5, .int .i64 f6] 44)).cell? ⟨b, off, none⟩ = some (.iface T0 u0) := cellB (bAl (Below.refl _ _) _) hz hs0
  have c1 : (w.alloc (.cells #[.int .i64 f0, .string f1, .int .i64 f2, .int .i64 f3, .string f4, .string f5, .int .i64 f6] 44)).cell? ⟨b, off + 1, none⟩ = some (.iface T1 u1) := cellB (bAl (Below.refl _ _) _) hz hs1
  have hp0 : 0 < len := by omega
  have hp1 : 1 < len := by omega
  have n1 : ¬ f0 = 1 := by omega
  have n2 : ¬ f0 = 2 := by omega
  have n3 : ¬ f0 = 3 := by omega
  have n4 : ¬ f0 = 4 := by omega
  have n5 : ¬ f0 = 5 := by omega
  have n6 : ¬ f0 = 6 := by omega
  have n7 : ¬ f0 = 7 := by omega
  have n10 : ¬ f0 = 10 := by omega
  have n20 : ¬ f0 = 20 := by omega
  have n21 : ¬ f0 = 21 := by omega
  clear hs0 hs1 h1 hk
  go_enter Tryz.func58, Tryz.ntmps58
  go_wp2_with fail
  go_quiet (fail)
  go_wp2_with fail
  go_ret2
  exact ⟨TreeEnd.one n1 n2 ⟨_, .inr (.inr (.inr (.inr (.inr (.inl rfl)))))⟩, bDrN (bAl (Below.refl _ _) _) _⟩

theorem Tag.if_ {x : ExprT} {v : Value} (h : Tag x v) : ∃ T u, v = .iface T u := by
  rcases h with ⟨_, h⟩ | ⟨_, u, h⟩
  · exact ⟨_, _, h⟩
  · rcases h with h | h | h | h | h | h | h <;> exact ⟨_, _, h⟩
theorem exprTreeOf_any (x : ExprT) (a : Option Addr) (len cap : Nat) (xs : List ExprT) (vs : List Value) (w : World) (hn : NodeP x) (h6 : x.f6 = (xs.length : Int)) (hs : SlI w a len vs) (ht : Tags xs vs) :
    Calls Tryz.prog 58 #[eAgg x, .slice a len cap] w fun e w' => TreeEnd x xs e ∧ Below w.heap.size w w' := by
  have hb := hn.kids
  have el : len = xs.length := hs.1.trans ht.1
  have hl : len ≤ 1000 := by omega
  by_cases hk : x.f0 = 1 ∨ x.f0 = 3 ∨ x.f0 = 2
  · exact exprTreeOf_plain x a len cap xs vs w hk hl hs ht
  have hk6 : x.f6 = ari x.f0 := by
    have := hn.2.1
    unfold kidP at this
    rwa [if_neg (by omega)] at this
  have hne := hn.1
  have get : ∀ i, i < len → ∃ b off, a = some ⟨b, off, none⟩ ∧ IfRow w b off vs := fun i hi => hs.at hi
  have cel : ∀ {b off}, IfRow w b off vs → ∀ i, i < len → ∃ T u, w.cell? ⟨b, off + i, none⟩ = some (.iface T u) := by
    intro b off hr i hi
    have h1 : i < vs.length := by rw [ht.1]; omega
    obtain ⟨T, u, e⟩ := (ht.2 i (by omega) h1).if_
    exact ⟨T, u, by rw [hr.c i h1, e]⟩
  by_cases hg : x.f0 = 4 ∨ x.f0 = 5 ∨ x.f0 = 20 ∨ x.f0 = 21 ∨ x.f0 = 6 ∨ x.f0 = 7
  · have e1 : ari x.f0 = 1 := by unfold ari; rw [if_neg (by omega), if_neg (by omega), if_pos (by omega)]
    obtain ⟨b, off, rfl, hr⟩ := get 0 (by omega)
    obtain ⟨T, u, c⟩ := cel hr 0 (by omega)
    exact exprTreeOf_get x b off len cap xs T u w hg (by omega) hr.z c
  by_cases hi : x.f0 = 10
  · have e1 : ari x.f0 = 3 := by rw [hi]; rfl
    obtain ⟨b, off, rfl, hr⟩ := get 0 (by omega)
    obtain ⟨T0, u0, c0⟩ := cel hr 0 (by omega)
    obtain ⟨T1, u1, c1⟩ := cel hr 1 (by omega)
    obtain ⟨T2, u2, c2⟩ := cel hr 2 (by omega)
    exact exprTreeOf_if x b off len cap xs T0 T1 T2 u0 u1 u2 w hi hl (by omega) hr.z c0 c1 c2
  have h8 : 8 ≤ x.f0 ∧ x.f0 ≤ 19 := by
    unfold ari at hne
    rw [if_neg (by omega), if_neg (by omega), if_neg (by omega), if_neg (by omega)] at hne
    by_cases h : 8 ≤ x.f0 ∧ x.f0 ≤ 19
    · exact h
    · rw [if_neg h] at hne; exact absurd rfl hne
  have e1 : ari x.f0 = 2 := by unfold ari; rw [if_neg (by omega), if_neg (by omega), if_neg (by omega), if_neg (by omega), if_pos h8]
  obtain ⟨b, off, rfl, hr⟩ := get 0 (by omega)
  obtain ⟨T0, u0, c0⟩ := cel hr 0 (by omega)
  obtain ⟨T1, u1, c1⟩ := cel hr 1 (by omega)
  exact exprTreeOf_pair x b off len cap xs T0 T1 u0 u1 w ⟨h8.1, h8.2, hi⟩ hl (by omega) hr.z c0 c1
end Go.Proofs.YteaidfighimoiaaGreat.V
