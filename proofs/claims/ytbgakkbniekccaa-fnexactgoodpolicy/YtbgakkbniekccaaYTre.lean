/- impl.setExprOf, exprTreeOf: which trees they answer with. -/
import Derived.Test.YtbgakkbniekccaaYNoe
import Derived.Test.YtbgakkbniekccaaSBase
import Derived.Maps.AppendAt
namespace Go.Proofs.Ytbgakkbniekccaa.V
open Go.RowKit Go.Maps

/-- What a node's tree is: an ExprLit's holds its atom. -/
def Tag (x : ExprT) (v : Value) : Prop :=
  (x.f0 = 1 ∧ v = .iface 102 (.agg #[.int .i64 x.f2, .int .i64 x.f3, .string x.f4, .string x.f5])) ∨
  (x.f0 ≠ 1 ∧ ∃ u, v = .iface 104 u ∨ v = .iface 107 u ∨ v = .iface 109 u ∨ v = .iface 111 u ∨ v = .iface 113 u ∨ v = .iface 115 u ∨ v = .iface 121 u)
structure IfRow (w : World) (b off : Nat) (vs : List Value) : Prop where
  z : b < w.heap.size
  c : ∀ i (h : i < vs.length), w.cell? ⟨b, off + i, none⟩ = some vs[i]
theorem IfRow.keep {w w1 : World} {b off : Nat} {l : List Value} (h : IfRow w b off l) (hb : Below w.heap.size w w1) : IfRow w1 b off l :=
  ⟨Nat.lt_of_lt_of_le h.z hb.size, fun i hi => cellB hb h.z (h.c i hi)⟩
def SlI (w : World) (a : Option Addr) (len : Nat) (l : List Value) : Prop := len = l.length ∧ (l = [] ∨ ∃ b off, a = some ⟨b, off, none⟩ ∧ IfRow w b off l)
theorem SlI.keep {w w1 : World} {a : Option Addr} {len : Nat} {l : List Value} (h : SlI w a len l) (hb : Below w.heap.size w w1) : SlI w1 a len l :=
  ⟨h.1, by
    rcases h.2 with e | ⟨b, off, e, r⟩
    · exact .inl e
    · exact .inr ⟨b, off, e, r.keep hb⟩⟩
theorem SlI.at {w : World} {a : Option Addr} {len : Nat} {l : List Value} (h : SlI w a len l) {k : Nat} (hk : k < len) : ∃ b off, a = some ⟨b, off, none⟩ ∧ IfRow w b off l := by
  rcases h.2 with e | e
  · rw [h.1, e] at hk; simp at hk
  · exact e
/-- Each of the kids is what its node says. -/
def Tags (xs : List ExprT) (vs : List Value) : Prop := vs.length = xs.length ∧ ∀ i (h : i < xs.length) (h' : i < vs.length), Tag xs[i] vs[i]
def aOf (x : ExprT) : AtomT := ⟨x.f2, x.f3, x.f4, x.f5⟩
theorem info_atom : (Try.prog.info? 37).map (fun i => (i.zero, i.size, i.bytes)) = some (some (.agg #[.int .i64 0, .int .i64 0, .string ByteArray.empty, .string ByteArray.empty]), 4, 48) := by kernel_rfl

theorem ta_lit (u : Value) (w : World) : (Instr.typeAssert (.iface 102 u) 63 102 true).run Try.prog w = .ok (.tuple #[u, .bool true]) w := by kernel_rfl
abbrev zLit : Value := .agg #[.int .i64 0, .int .i64 0, .string ⟨#[]⟩, .string ⟨#[]⟩]
theorem ta_var (u : Value) (w : World) : (Instr.typeAssert (.iface 104 u) 63 102 true).run Try.prog w = .ok (.tuple #[zLit, .bool false]) w := by kernel_rfl
theorem ta_get (u : Value) (w : World) : (Instr.typeAssert (.iface 107 u) 63 102 true).run Try.prog w = .ok (.tuple #[zLit, .bool false]) w := by kernel_rfl
theorem ta_word (u : Value) (w : World) : (Instr.typeAssert (.iface 109 u) 63 102 true).run Try.prog w = .ok (.tuple #[zLit, .bool false]) w := by kernel_rfl
theorem ta_sign (u : Value) (w : World) : (Instr.typeAssert (.iface 111 u) 63 102 true).run Try.prog w = .ok (.tuple #[zLit, .bool false]) w := by kernel_rfl
theorem ta_if (u : Value) (w : World) : (Instr.typeAssert (.iface 113 u) 63 102 true).run Try.prog w = .ok (.tuple #[zLit, .bool false]) w := by kernel_rfl
theorem ta_pair (u : Value) (w : World) : (Instr.typeAssert (.iface 115 u) 63 102 true).run Try.prog w = .ok (.tuple #[zLit, .bool false]) w := by kernel_rfl
theorem ta_set (u : Value) (w : World) : (Instr.typeAssert (.iface 121 u) 63 102 true).run Try.prog w = .ok (.tuple #[zLit, .bool false]) w := by kernel_rfl

set_option maxRecDepth 20000 in
set_option maxHeartbeats 1000000 in
theorem setExprOf_any (a : Option Addr) (len cap : Nat) (xs : List ExprT) (vs : List Value) (w : World) (hl : len ≤ 1000) (hs : SlI w a len vs) (ht : Tags xs vs) :
    Calls Try.prog 70 #[.slice a len cap] w fun e w' => (((∀ x ∈ xs, x.f0 = 1) ∧ ∃ v, e = .returned (.tuple #[.iface 121 (.agg #[v]), .bool true]) ∧ w'.ownsRow w.heap.size 37 4 v len (atomsV (xs.map aOf))) ∨ ((¬ ∀ x ∈ xs, x.f0 = 1) ∧ e = .returned (.tuple #[.nilIface, .bool false]))) ∧ Below w.heap.size w w' := by
  obtain ⟨i0, hi, hz0, hz1, hz2⟩ := info_parts info_atom
  have HS := hide hs
  have HT := hide ht
  clear hs ht
  go_enter Try.func70, Try.ntmps70
  go_wp2
  go_loopw [4, 11] (fun v i w' => ∃ (k : Nat), k ≤ len ∧ i = .int .i64 k ∧ Hid (w'.ownsRow w.heap.size 37 4 v k (atomsV ((xs.take k).map aOf))) ∧ Hid (∀ x ∈ xs.take k, x.f0 = 1) ∧ Hid (Below w.heap.size w w')) (fun _ i _ => len - (Go.RowKit.intOf i).toNat)
  case atStart => exact ⟨0, Nat.zero_le _, rfl, hide (by simp [atomsV]; exact World.ownsRow_nil _ _ _ _), hide (by simp), hide (Below.refl _ _)⟩
  case round =>
    obtain ⟨k, hk, rfl, hown, hall, hb⟩ := hrel
    by_cases hlt : k < len
    · obtain ⟨b, off, rfl, hrow⟩ := ((unhide HS).keep (unhide hb)).at hlt
      have hk1 : k < vs.length := by rw [← (unhide HS).1]; exact hlt
      have hk2 : k < xs.length := by rw [← (unhide HT).1]; exact hk1
      have ck := hrow.c k hk1
      have zk := hrow.z
      have tg := (unhide HT).2 k hk2 hk1
      rcases tg with ⟨h1, h2⟩ | ⟨h1, u, h2⟩
      · rw [h2] at ck
        have q := ta_lit (.agg #[.int .i64 xs[k].f2, .int .i64 xs[k].f3, .string xs[k].f4, .string xs[k].f5])
        have hall' := hide (fun (x : ExprT) (hx : x ∈ xs.take (k + 1)) => show x.f0 = 1 by
          rw [List.take_succ_eq_append_getElem hk2, List.mem_append, List.mem_singleton] at hx
          rcases hx with hx | rfl
          · exact unhide hall x hx
          · exact h1)
        have ea : Hid (atomsV ((xs.take (k + 1)).map aOf) = atomsV ((xs.take k).map aOf) ++ cellsA (aOf xs[k])) := hide (by
          rw [List.take_succ_eq_append_getElem hk2, List.map_append, List.map_singleton, atomsV_snoc])
        clear hrow h2 hall h1
        generalize atomsV ((xs.take k).map aOf) = AV at ea hown
        simp only [aOf] at ea
        generalize xs[k] = x at *
        obtain ⟨f0, f1, f2, f3, f4, f5, f6⟩ := x
        simp only at q ck ea
        have t1 := hide (((unhide hown).alloc (.cells #[.int .i64 f2, .int .i64 f3, .string f4, .string f5] 102)).alloc (.cells #[.int .i64 f2, .int .i64 f3, .string f4, .string f5] 37))
        have t2 := hide (cell_four_new (wr.alloc (.cells #[.int .i64 f2, .int .i64 f3, .string f4, .string f5] 102)) (cellsA ⟨f2, f3, f4, f5⟩) 37)
        have es : (wr.alloc (.cells #[.int .i64 f2, .int .i64 f3, .string f4, .string f5] 102)).heap.size = wr.heap.size + 1 := by simp
        rw [es] at t2
        clear es
        have t3 : ∀ u ∈ cellsA ⟨f2, f3, f4, f5⟩, u.oneCell' = true := (fun u hu => by simp [cellsA] at hu; rcases hu with rfl | rfl | rfl | rfl <;> rfl)
        have T3 := hide t3
        have t4 : w.heap.size ≤ ((wr.alloc (.cells #[.int .i64 f2, .int .i64 f3, .string f4, .string f5] 102)).alloc (.cells #[.int .i64 f2, .int .i64 f3, .string f4, .string f5] 37)).heap.size := by have := (unhide hb).size; simp; omega
        have T4 := hide t4
        have t5 : (k + 1) * 48 ≤ 140737488355328 := by omega
        have B3 := hide (bAl (bAl (unhide hb) (.cells #[.int .i64 f2, .int .i64 f3, .string f4, .string f5] 102)) (.cells #[.int .i64 f2, .int .i64 f3, .string f4, .string f5] 37))
        have lt := hide (fun j hj => ((unhide hown).lt j hj).1)
        clear t3 t4 hb hown
        go_wp2_with (at_builtin; refine wpList_append_own_at _ rfl _ _ 119 rfl w.heap.size 37 i0 _ 4 48 Try.underlying119 hi hz0 hz1 hz2 rfl (by decide) _ _ _ rfl (unhide t1) ⟨_, 0, none⟩ 1 1 (cellsA ⟨f2, f3, f4, f5⟩) rfl rfl (unhide t2) (unhide T3) (by unfold maxLen; omega) t5 (unhide T4) ?_; intro v3 w3 hown3 hgrow3 _ hat3)
        exact ⟨⟨k + 1, by omega, by go_num, hide (by rw [unhide ea]; exact hown3), hall', hide ((unhide B3).grown hgrow3 (unhide T4) (unhide lt))⟩, by simp [Go.RowKit.intOf]; omega⟩
      · have no : Hid (¬ ∀ x ∈ xs, x.f0 = 1) := hide (fun h => h1 (h _ (List.getElem_mem hk2)))
        clear h1 hall hown hrow
        rcases h2 with h2 | h2 | h2 | h2 | h2 | h2 | h2
        all_goals rw [h2] at ck
        all_goals clear h2
        · have q := ta_var u
          go_wp2_with fail
          go_ret2
          exact ⟨.inr ⟨unhide no, rfl⟩, unhide hb⟩
        · have q := ta_get u
          go_wp2_with fail
          go_ret2
          exact ⟨.inr ⟨unhide no, rfl⟩, unhide hb⟩
        · have q := ta_word u
          go_wp2_with fail
          go_ret2
          exact ⟨.inr ⟨unhide no, rfl⟩, unhide hb⟩
        · have q := ta_sign u
          go_wp2_with fail
          go_ret2
          exact ⟨.inr ⟨unhide no, rfl⟩, unhide hb⟩
        · have q := ta_if u
          go_wp2_with fail
          go_ret2
          exact ⟨.inr ⟨unhide no, rfl⟩, unhide hb⟩
        · have q := ta_pair u
          go_wp2_with fail
          go_ret2
          exact ⟨.inr ⟨unhide no, rfl⟩, unhide hb⟩
        · have q := ta_set u
          go_wp2_with fail
          go_ret2
          exact ⟨.inr ⟨unhide no, rfl⟩, unhide hb⟩
    · have e : k = xs.length := by rw [← (unhide HT).1, ← (unhide HS).1]; omega
      have hall' : Hid (∀ x ∈ xs, x.f0 = 1) := hide (by have := unhide hall; rwa [e, List.take_length] at this)
      have ho : Hid (wr.ownsRow w.heap.size 37 4 u4 len (atomsV (xs.map aOf))) := hide (by
        have h := unhide hown
        have el : k = len := by omega
        subst el
        rwa [e, List.take_length, ← e] at h)
      clear e hall hown
      obtain ⟨av, cv, ev⟩ := own_sl (unhide ho)
      subst ev
      go_wp2_with fail
      go_ret2
      exact ⟨.inl ⟨unhide hall', _, rfl, unhide ho⟩, unhide hb⟩
end Go.Proofs.Ytbgakkbniekccaa.V
