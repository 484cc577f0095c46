/- FRv, FRa, one behind the other. -/
import Derived.Test.YteaidfighimoiaaGreatJ21
import Derived.Test.YteaidfighimoiaaGreatJ19
/- spec.l14Right, whole. -/
namespace Go.Proofs.YteaidfighimoiaaGreat.V
open Go.RowKit Go.Maps

theorem l14Right_any : ∀ (r : Nat) (w : World) (lo : Nat) (s : Value) (t : ET), TrAt r w lo s t → Fit t → Calls Tryz.prog 14 #[agg8 t.n s] w fun e w' => RetB e (FragN r t) ∧ Below w.heap.size w w'
  | 0, _, _, _, _, h, _ => h.elim
  | r + 1, w, lo, s, .node x ks, h, hf => by
    have ih := l14Right_any r
    obtain ⟨a, cap, e⟩ := h.sl
    subst e
    simp only [ET.n, ET.kids] at h ⊢
    by_cases g1 : x.f0 = 1
    · exact right_lit _ w x ks a cap g1 (hide (by simp [FragN, g1]))
    by_cases g4 : x.f0 = 4
    · exact right_get _ r w lo x ks a cap h hf g4 (hide (by unfold PathT; simp [FragN, g4, ET.n, ET.kids]))
    by_cases g5 : x.f0 = 5
    · exact right_has _ r w lo x ks a cap h hf g5 (hide (by simp [FragN, g5]))
    by_cases g6 : x.f0 = 6 ∨ x.f0 = 8 ∨ x.f0 = 9 ∨ x.f0 = 10
    · exact right_kids _ r w lo x ks a cap h hf g6 ih (hide (by simp only [FragN, if_neg g1, if_neg (show ¬ (x.f0 = 4 ∨ x.f0 = 5) by omega), if_pos g6]))
    by_cases g21 : x.f0 = 21
    · exact right_is _ r w lo x ks a cap h hf g21 (hide (by simp [FragN, g21]))
    by_cases g17 : x.f0 = 17
    · exact right_pair17 _ r w lo x ks a cap h hf g17 (hide (by simp [FragN, PairN, g17]))
    by_cases g18 : x.f0 = 18
    · exact right_pair18 _ r w lo x ks a cap h hf g18 (hide (by simp [FragN, PairN, g18]))
    by_cases g11 : x.f0 = 11
    · exact right_pair11 _ r w lo x ks a cap h hf g11 (hide (by simp [FragN, PairN, g11]))
    by_cases g12 : x.f0 = 12
    · exact right_pair12 _ r w lo x ks a cap h hf g12 (hide (by simp [FragN, PairN, g12]))
    by_cases g13 : x.f0 = 13
    · exact right_pair13 _ r w lo x ks a cap h hf g13 (hide (by simp [FragN, PairN, g13]))
    simp only [not_or] at g6
    exact right_none _ w x ks a cap g1 g4 g5 g6.1 g6.2.1 g6.2.2.1 g6.2.2.2 g21 g11 g12 g13 g17 g18 (hide (by simp [FragN, g1, g4, g5, g6, g21, g17, g18, g11, g12, g13]))
end Go.Proofs.YteaidfighimoiaaGreat.V
/- impl.isVarOf, fieldFirst: words and trees. -/
namespace Go.Proofs.YteaidfighimoiaaGreat.V
open Go.RowKit Go.Maps

theorem ta_lit_lit (u : Value) (w : World) : (Instr.typeAssert (.iface 76 u) 55 76 true).run Tryz.prog w = .ok (.tuple #[u, .bool true]) w := by kernel_rfl
theorem ta_lit_var (u : Value) (w : World) : (Instr.typeAssert (.iface 76 u) 55 112 true).run Tryz.prog w = .ok (.tuple #[.agg #[.string ⟨#[]⟩], .bool false]) w := by kernel_rfl
theorem ta_lit_get (u : Value) (w : World) : (Instr.typeAssert (.iface 76 u) 55 78 true).run Tryz.prog w = .ok (.tuple #[.agg #[.nilIface, .string ⟨#[]⟩], .bool false]) w := by kernel_rfl
theorem ta_lit_word (u : Value) (w : World) : (Instr.typeAssert (.iface 76 u) 55 81 true).run Tryz.prog w = .ok (.tuple #[.agg #[.int .i64 0, .nilIface, .string ⟨#[]⟩], .bool false]) w := by kernel_rfl
theorem ta_lit_sign (u : Value) (w : World) : (Instr.typeAssert (.iface 76 u) 55 83 true).run Tryz.prog w = .ok (.tuple #[.agg #[.int .i64 0, .nilIface], .bool false]) w := by kernel_rfl
theorem ta_lit_if (u : Value) (w : World) : (Instr.typeAssert (.iface 76 u) 55 93 true).run Tryz.prog w = .ok (.tuple #[.agg #[.nilIface, .nilIface, .nilIface], .bool false]) w := by kernel_rfl
theorem ta_lit_pair (u : Value) (w : World) : (Instr.typeAssert (.iface 76 u) 55 85 true).run Tryz.prog w = .ok (.tuple #[.agg #[.int .i64 0, .nilIface, .nilIface], .bool false]) w := by kernel_rfl
theorem ta_lit_set (u : Value) (w : World) : (Instr.typeAssert (.iface 76 u) 55 119 true).run Tryz.prog w = .ok (.tuple #[.agg #[.slice none 0 0], .bool false]) w := by kernel_rfl
theorem ta_var_lit (u : Value) (w : World) : (Instr.typeAssert (.iface 112 u) 55 76 true).run Tryz.prog w = .ok (.tuple #[.agg #[.int .i64 0, .int .i64 0, .string ⟨#[]⟩, .string ⟨#[]⟩], .bool false]) w := by kernel_rfl
theorem ta_var_var (u : Value) (w : World) : (Instr.typeAssert (.iface 112 u) 55 112 true).run Tryz.prog w = .ok (.tuple #[u, .bool true]) w := by kernel_rfl
theorem ta_var_get (u : Value) (w : World) : (Instr.typeAssert (.iface 112 u) 55 78 true).run Tryz.prog w = .ok (.tuple #[.agg #[.nilIface, .string ⟨#[]⟩], .bool false]) w := by kernel_rfl
theorem ta_var_word (u : Value) (w : World) : (Instr.typeAssert (.iface 112 u) 55 81 true).run Tryz.prog w = .ok (.tuple #[.agg #[.int .i64 0, .nilIface, .string ⟨#[]⟩], .bool false]) w := by kernel_rfl
theorem ta_var_sign (u : Value) (w : World) : (Instr.typeAssert (.iface 112 u) 55 83 true).run Tryz.prog w = .ok (.tuple #[.agg #[.int .i64 0, .nilIface], .bool false]) w := by kernel_rfl
theorem ta_var_if (u : Value) (w : World) : (Instr.typeAssert (.iface 112 u) 55 93 true).run Tryz.prog w = .ok (.tuple #[.agg #[.nilIface, .nilIface, .nilIface], .bool false]) w := by kernel_rfl
theorem ta_var_pair (u : Value) (w : World) : (Instr.typeAssert (.iface 112 u) 55 85 true).run Tryz.prog w = .ok (.tuple #[.agg #[.int .i64 0, .nilIface, .nilIface], .bool false]) w := by kernel_rfl
theorem ta_var_set (u : Value) (w : World) : (Instr.typeAssert (.iface 112 u) 55 119 true).run Tryz.prog w = .ok (.tuple #[.agg #[.slice none 0 0], .bool false]) w := by kernel_rfl
theorem ta_get_lit (u : Value) (w : World) : (Instr.typeAssert (.iface 78 u) 55 76 true).run Tryz.prog w = .ok (.tuple #[.agg #[.int .i64 0, .int .i64 0, .string ⟨#[]⟩, .string ⟨#[]⟩], .bool false]) w := by kernel_rfl
theorem ta_get_var (u : Value) (w : World) : (Instr.typeAssert (.iface 78 u) 55 112 true).run Tryz.prog w = .ok (.tuple #[.agg #[.string ⟨#[]⟩], .bool false]) w := by kernel_rfl
theorem ta_get_get (u : Value) (w : World) : (Instr.typeAssert (.iface 78 u) 55 78 true).run Tryz.prog w = .ok (.tuple #[u, .bool true]) w := by kernel_rfl
theorem ta_get_word (u : Value) (w : World) : (Instr.typeAssert (.iface 78 u) 55 81 true).run Tryz.prog w = .ok (.tuple #[.agg #[.int .i64 0, .nilIface, .string ⟨#[]⟩], .bool false]) w := by kernel_rfl
theorem ta_get_sign (u : Value) (w : World) : (Instr.typeAssert (.iface 78 u) 55 83 true).run Tryz.prog w = .ok (.tuple #[.agg #[.int .i64 0, .nilIface], .bool false]) w := by kernel_rfl
theorem ta_get_if (u : Value) (w : World) : (Instr.typeAssert (.iface 78 u) 55 93 true).run Tryz.prog w = .ok (.tuple #[.agg #[.nilIface, .nilIface, .nilIface], .bool false]) w := by kernel_rfl
theorem ta_get_pair (u : Value) (w : World) : (Instr.typeAssert (.iface 78 u) 55 85 true).run Tryz.prog w = .ok (.tuple #[.agg #[.int .i64 0, .nilIface, .nilIface], .bool false]) w := by kernel_rfl
theorem ta_get_set (u : Value) (w : World) : (Instr.typeAssert (.iface 78 u) 55 119 true).run Tryz.prog w = .ok (.tuple #[.agg #[.slice none 0 0], .bool false]) w := by kernel_rfl
theorem ta_word_lit (u : Value) (w : World) : (Instr.typeAssert (.iface 81 u) 55 76 true).run Tryz.prog w = .ok (.tuple #[.agg #[.int .i64 0, .int .i64 0, .string ⟨#[]⟩, .string ⟨#[]⟩], .bool false]) w := by kernel_rfl
theorem ta_word_var (u : Value) (w : World) : (Instr.typeAssert (.iface 81 u) 55 112 true).run Tryz.prog w = .ok (.tuple #[.agg #[.string ⟨#[]⟩], .bool false]) w := by kernel_rfl
theorem ta_word_get (u : Value) (w : World) : (Instr.typeAssert (.iface 81 u) 55 78 true).run Tryz.prog w = .ok (.tuple #[.agg #[.nilIface, .string ⟨#[]⟩], .bool false]) w := by kernel_rfl
theorem ta_word_word (u : Value) (w : World) : (Instr.typeAssert (.iface 81 u) 55 81 true).run Tryz.prog w = .ok (.tuple #[u, .bool true]) w := by kernel_rfl
theorem ta_word_sign (u : Value) (w : World) : (Instr.typeAssert (.iface 81 u) 55 83 true).run Tryz.prog w = .ok (.tuple #[.agg #[.int .i64 0, .nilIface], .bool false]) w := by kernel_rfl
theorem ta_word_if (u : Value) (w : World) : (Instr.typeAssert (.iface 81 u) 55 93 true).run Tryz.prog w = .ok (.tuple #[.agg #[.nilIface, .nilIface, .nilIface], .bool false]) w := by kernel_rfl
theorem ta_word_pair (u : Value) (w : World) : (Instr.typeAssert (.iface 81 u) 55 85 true).run Tryz.prog w = .ok (.tuple #[.agg #[.int .i64 0, .nilIface, .nilIface], .bool false]) w := by kernel_rfl
theorem ta_word_set (u : Value) (w : World) : (Instr.typeAssert (.iface 81 u) 55 119 true).run Tryz.prog w = .ok (.tuple #[.agg #[.slice none 0 0], .bool false]) w := by kernel_rfl
theorem ta_sign_lit (u : Value) (w : World) : (Instr.typeAssert (.iface 83 u) 55 76 true).run Tryz.prog w = .ok (.tuple #[.agg #[.int .i64 0, .int .i64 0, .string ⟨#[]⟩, .string ⟨#[]⟩], .bool false]) w := by kernel_rfl
theorem ta_sign_var (u : Value) (w : World) : (Instr.typeAssert (.iface 83 u) 55 112 true).run Tryz.prog w = .ok (.tuple #[.agg #[.string ⟨#[]⟩], .bool false]) w := by kernel_rfl
theorem ta_sign_get (u : Value) (w : World) : (Instr.typeAssert (.iface 83 u) 55 78 true).run Tryz.prog w = .ok (.tuple #[.agg #[.nilIface, .string ⟨#[]⟩], .bool false]) w := by kernel_rfl
theorem ta_sign_word (u : Value) (w : World) : (Instr.typeAssert (.iface 83 u) 55 81 true).run Tryz.prog w = .ok (.tuple #[.agg #[.int .i64 0, .nilIface, .string ⟨#[]⟩], .bool false]) w := by kernel_rfl
theorem ta_sign_sign (u : Value) (w : World) : (Instr.typeAssert (.iface 83 u) 55 83 true).run Tryz.prog w = .ok (.tuple #[u, .bool true]) w := by kernel_rfl
theorem ta_sign_if (u : Value) (w : World) : (Instr.typeAssert (.iface 83 u) 55 93 true).run Tryz.prog w = .ok (.tuple #[.agg #[.nilIface, .nilIface, .nilIface], .bool false]) w := by kernel_rfl
theorem ta_sign_pair (u : Value) (w : World) : (Instr.typeAssert (.iface 83 u) 55 85 true).run Tryz.prog w = .ok (.tuple #[.agg #[.int .i64 0, .nilIface, .nilIface], .bool false]) w := by kernel_rfl
theorem ta_sign_set (u : Value) (w : World) : (Instr.typeAssert (.iface 83 u) 55 119 true).run Tryz.prog w = .ok (.tuple #[.agg #[.slice none 0 0], .bool false]) w := by kernel_rfl
theorem ta_if_lit (u : Value) (w : World) : (Instr.typeAssert (.iface 93 u) 55 76 true).run Tryz.prog w = .ok (.tuple #[.agg #[.int .i64 0, .int .i64 0, .string ⟨#[]⟩, .string ⟨#[]⟩], .bool false]) w := by kernel_rfl
theorem ta_if_var (u : Value) (w : World) : (Instr.typeAssert (.iface 93 u) 55 112 true).run Tryz.prog w = .ok (.tuple #[.agg #[.string ⟨#[]⟩], .bool false]) w := by kernel_rfl
theorem ta_if_get (u : Value) (w : World) : (Instr.typeAssert (.iface 93 u) 55 78 true).run Tryz.prog w = .ok (.tuple #[.agg #[.nilIface, .string ⟨#[]⟩], .bool false]) w := by kernel_rfl
theorem ta_if_word (u : Value) (w : World) : (Instr.typeAssert (.iface 93 u) 55 81 true).run Tryz.prog w = .ok (.tuple #[.agg #[.int .i64 0, .nilIface, .string ⟨#[]⟩], .bool false]) w := by kernel_rfl
theorem ta_if_sign (u : Value) (w : World) : (Instr.typeAssert (.iface 93 u) 55 83 true).run Tryz.prog w = .ok (.tuple #[.agg #[.int .i64 0, .nilIface], .bool false]) w := by kernel_rfl
theorem ta_if_if (u : Value) (w : World) : (Instr.typeAssert (.iface 93 u) 55 93 true).run Tryz.prog w = .ok (.tuple #[u, .bool true]) w := by kernel_rfl
theorem ta_if_pair (u : Value) (w : World) : (Instr.typeAssert (.iface 93 u) 55 85 true).run Tryz.prog w = .ok (.tuple #[.agg #[.int .i64 0, .nilIface, .nilIface], .bool false]) w := by kernel_rfl
theorem ta_if_set (u : Value) (w : World) : (Instr.typeAssert (.iface 93 u) 55 119 true).run Tryz.prog w = .ok (.tuple #[.agg #[.slice none 0 0], .bool false]) w := by kernel_rfl
theorem ta_pair_lit (u : Value) (w : World) : (Instr.typeAssert (.iface 85 u) 55 76 true).run Tryz.prog w = .ok (.tuple #[.agg #[.int .i64 0, .int .i64 0, .string ⟨#[]⟩, .string ⟨#[]⟩], .bool false]) w := by kernel_rfl
theorem ta_pair_var (u : Value) (w : World) : (Instr.typeAssert (.iface 85 u) 55 112 true).run Tryz.prog w = .ok (.tuple #[.agg #[.string ⟨#[]⟩], .bool false]) w := by kernel_rfl
theorem ta_pair_get (u : Value) (w : World) : (Instr.typeAssert (.iface 85 u) 55 78 true).run Tryz.prog w = .ok (.tuple #[.agg #[.nilIface, .string ⟨#[]⟩], .bool false]) w := by kernel_rfl
theorem ta_pair_word (u : Value) (w : World) : (Instr.typeAssert (.iface 85 u) 55 81 true).run Tryz.prog w = .ok (.tuple #[.agg #[.int .i64 0, .nilIface, .string ⟨#[]⟩], .bool false]) w := by kernel_rfl
theorem ta_pair_sign (u : Value) (w : World) : (Instr.typeAssert (.iface 85 u) 55 83 true).run Tryz.prog w = .ok (.tuple #[.agg #[.int .i64 0, .nilIface], .bool false]) w := by kernel_rfl
theorem ta_pair_if (u : Value) (w : World) : (Instr.typeAssert (.iface 85 u) 55 93 true).run Tryz.prog w = .ok (.tuple #[.agg #[.nilIface, .nilIface, .nilIface], .bool false]) w := by kernel_rfl
theorem ta_pair_pair (u : Value) (w : World) : (Instr.typeAssert (.iface 85 u) 55 85 true).run Tryz.prog w = .ok (.tuple #[u, .bool true]) w := by kernel_rfl
theorem ta_pair_set (u : Value) (w : World) : (Instr.typeAssert (.iface 85 u) 55 119 true).run Tryz.prog w = .ok (.tuple #[.agg #[.slice none 0 0], .bool false]) w := by kernel_rfl
theorem ta_set_lit (u : Value) (w : World) : (Instr.typeAssert (.iface 119 u) 55 76 true).run Tryz.prog w = .ok (.tuple #[.agg #[.int .i64 0, .int .i64 0, .string ⟨#[]⟩, .string ⟨#[]⟩], .bool false]) w := by kernel_rfl
theorem ta_set_var (u : Value) (w : World) : (Instr.typeAssert (.iface 119 u) 55 112 true).run Tryz.prog w = .ok (.tuple #[.agg #[.string ⟨#[]⟩], .bool false]) w := by kernel_rfl
theorem ta_set_get (u : Value) (w : World) : (Instr.typeAssert (.iface 119 u) 55 78 true).run Tryz.prog w = .ok (.tuple #[.agg #[.nilIface, .string ⟨#[]⟩], .bool false]) w := by kernel_rfl
theorem ta_set_word (u : Value) (w : World) : (Instr.typeAssert (.iface 119 u) 55 81 true).run Tryz.prog w = .ok (.tuple #[.agg #[.int .i64 0, .nilIface, .string ⟨#[]⟩], .bool false]) w := by kernel_rfl
theorem ta_set_sign (u : Value) (w : World) : (Instr.typeAssert (.iface 119 u) 55 83 true).run Tryz.prog w = .ok (.tuple #[.agg #[.int .i64 0, .nilIface], .bool false]) w := by kernel_rfl
theorem ta_set_if (u : Value) (w : World) : (Instr.typeAssert (.iface 119 u) 55 93 true).run Tryz.prog w = .ok (.tuple #[.agg #[.nilIface, .nilIface, .nilIface], .bool false]) w := by kernel_rfl
theorem ta_set_pair (u : Value) (w : World) : (Instr.typeAssert (.iface 119 u) 55 85 true).run Tryz.prog w = .ok (.tuple #[.agg #[.int .i64 0, .nilIface, .nilIface], .bool false]) w := by kernel_rfl
theorem ta_set_set (u : Value) (w : World) : (Instr.typeAssert (.iface 119 u) 55 119 true).run Tryz.prog w = .ok (.tuple #[u, .bool true]) w := by kernel_rfl

set_option maxHeartbeats 400000 in
theorem index_anyF (a : Option Addr) (len cap : Nat) (l : List ByteArray) (s : ByteArray) (w : World) (hl : len ≤ 1000000) (hs : SlS w a len l) :
    Calls Tryz.prog 71 #[.slice a len cap, .string s] w fun e w' => (∃ v : Int, e = .returned (.int .i64 v) ∧ (0 ≤ v ↔ s ∈ l)) ∧ w = w' := by
  have HS := hide hs
  clear hs
  go_enter Tryz.func71, Tryz.ntmps71
  go_wp2_with fail
  go_loopw [8] (fun i wx => ∃ k : Nat, k ≤ len ∧ i = .int .i64 k ∧ Hid (¬ s ∈ l.take k) ∧ wx = w) (fun i _ => len - (Go.RowKit.intOf i).toNat)
  case atStart => exact ⟨0, Nat.zero_le _, rfl, hide (by simp), rfl⟩
  case round =>
    obtain ⟨k, hk, rfl, hn, rfl⟩ := hrel
    by_cases hlt : k < len
    · have hk' : k < l.length := by rw [← (unhide HS).1]; exact hlt
      obtain ⟨b, off, rfl, hrow⟩ := (unhide HS).at hlt
      have c0 := hrow.c k hk'
      have zk := hrow.z
      have eY : Hid (s = l[k] → s ∈ l) := hide (fun e => e ▸ List.getElem_mem hk')
      have eN : Hid (¬ s = l[k] → ¬ s ∈ l.take (k + 1)) := hide (fun e h => by
        rw [List.take_succ_eq_append_getElem hk', List.mem_append, List.mem_singleton] at h
        rcases h with h | h
        · exact unhide hn h
        · exact e h)
      clear hrow
      generalize l[k] = A at c0 eY eN
      by_cases he : s = A
      · replace eY := hide (unhide eY he)
        subst he
        clear eN
        go_wp2_with fail
        go_ret
        exact ⟨⟨_, rfl, fun _ => unhide eY, fun _ => by omega⟩, rfl⟩
      · replace eN := hide (unhide eN he)
        have hne := str_neY he
        clear eY he
        go_wp2_with fail
        exact ⟨⟨k + 1, by omega, by go_num, eN, trivial⟩, by simp [Go.RowKit.intOf]; omega⟩
    · have hN : Hid (¬ s ∈ l) := hide (fun h => unhide hn (by rw [List.take_of_length_le (by have := (unhide HS).1; omega)]; exact h))
      go_wp2_with fail
      go_ret
      exact ⟨⟨_, rfl, fun h => absurd h (by decide), fun h => absurd h (unhide hN)⟩, rfl⟩
theorem contains_anyF (a : Option Addr) (len cap : Nat) (l : List ByteArray) (s : ByteArray) (w : World) (hl : len ≤ 1000000) (hs : SlS w a len l) :
    Calls Tryz.prog 59 #[.slice a len cap, .string s] w fun e w' => RetB e (s ∈ l) ∧ w = w' := by
  have q := hide (index_anyF a len cap l s w hl hs)
  clear hs
  go_enter Tryz.func59, Tryz.ntmps59
  go_wp2_with fail
  refine (unhide q).mono ?_
  rintro e w1 ⟨⟨v, rfl, hv⟩, rfl⟩
  have HV := hide hv
  clear hv q
  go_wp2_with fail
  go_ret
  exact ⟨retB (b := decide (0 ≤ v)) (by rw [decide_eq_true_iff]; exact unhide HV), rfl⟩

/-- What a tree's value is. -/
def Vw (w : World) (lo r : Nat) (x : ExprT) (ks : List ET) (v : Value) : Prop :=
  (x.f0 = 1 ∧ v = .iface 76 (.agg #[.int .i64 x.f2, .int .i64 x.f3, .string x.f4, .string x.f5]))
  ∨ (x.f0 = 2 ∧ ∃ sv, v = .iface 119 (.agg #[sv]))
  ∨ (x.f0 = 3 ∧ v = .iface 112 (.agg #[.string x.f1]))
  ∨ (x.f0 = 4 ∧ ∃ k0 v0, ks = [k0] ∧ ExAt w lo r k0 v0 ∧ v = .iface 78 (.agg #[v0, .string x.f1]))
  ∨ ((x.f0 = 5 ∨ x.f0 = 20 ∨ x.f0 = 21) ∧ ∃ k0 v0, ks = [k0] ∧ ExAt w lo r k0 v0 ∧ v = .iface 81 (.agg #[.int .i64 x.f0, v0, .string x.f1]))
  ∨ ((x.f0 = 6 ∨ x.f0 = 7) ∧ ∃ k0 v0, ks = [k0] ∧ ExAt w lo r k0 v0 ∧ v = .iface 83 (.agg #[.int .i64 x.f0, v0]))
  ∨ (x.f0 = 10 ∧ ∃ k0 k1 k2 v0 v1 v2, ks = [k0, k1, k2] ∧ ExAt w lo r k0 v0 ∧ ExAt w lo r k1 v1 ∧ ExAt w lo r k2 v2 ∧ v = .iface 93 (.agg #[v0, v1, v2]))
  ∨ ((8 ≤ x.f0 ∧ x.f0 ≤ 19 ∧ x.f0 ≠ 10) ∧ ∃ k0 k1 v0 v1, ks = [k0, k1] ∧ ExAt w lo r k0 v0 ∧ ExAt w lo r k1 v1 ∧ v = .iface 85 (.agg #[.int .i64 x.f0, v0, v1]))
theorem ExAt.view {w : World} {lo r : Nat} {x : ExprT} {ks : List ET} {v : Value} (h : ExAt w lo (r + 1) (.node x ks) v) (hf : Fit (.node x ks)) : Vw w lo r x ks v := by
  obtain ⟨vs, hl, hn, hk⟩ := h
  by_cases h2 : x.f0 = 2
  · unfold NodeV at hn
    rw [if_pos h2] at hn
    obtain ⟨sv, e, _⟩ := hn
    exact .inr (.inl ⟨h2, sv, e⟩)
  have hlen := hf.len h2
  have ha := hf.out.1.1
  unfold NodeV at hn
  rw [if_neg h2] at hn
  have one : ∀ (_ : ari x.f0 = 1), ∃ k0 v0, ks = [k0] ∧ vs = [v0] ∧ ExAt w lo r k0 v0 := by
    intro e
    match ks, vs, hl, hk with
    | [k0], [v0], _, hk => exact ⟨k0, v0, rfl, rfl, hk 0 (by simp) (by simp)⟩
    | [], _, _, _ => rw [e] at hlen; simp at hlen
    | _ :: _ :: _, _, _, _ => rw [e] at hlen; simp at hlen; omega
    | [_], [], hl, _ => simp at hl
    | [_], _ :: _ :: _, hl, _ => simp at hl
  have two : ∀ (_ : ari x.f0 = 2), ∃ k0 k1 v0 v1, ks = [k0, k1] ∧ vs = [v0, v1] ∧ ExAt w lo r k0 v0 ∧ ExAt w lo r k1 v1 := by
    intro e
    match ks, vs, hl, hk with
    | [k0, k1], [v0, v1], _, hk => exact ⟨k0, k1, v0, v1, rfl, rfl, hk 0 (by simp) (by simp), hk 1 (by simp) (by simp)⟩
    | [], _, _, _ => rw [e] at hlen; simp at hlen
    | [_], _, _, _ => rw [e] at hlen; simp at hlen
    | _ :: _ :: _ :: _, _, _, _ => rw [e] at hlen; simp at hlen; omega
    | [_, _], [], hl, _ => simp at hl
    | [_, _], [_], hl, _ => simp at hl
    | [_, _], _ :: _ :: _ :: _, hl, _ => simp at hl
  have three : ∀ (_ : ari x.f0 = 3), ∃ k0 k1 k2 v0 v1 v2, ks = [k0, k1, k2] ∧ vs = [v0, v1, v2] ∧ ExAt w lo r k0 v0 ∧ ExAt w lo r k1 v1 ∧ ExAt w lo r k2 v2 := by
    intro e
    match ks, vs, hl, hk with
    | [k0, k1, k2], [v0, v1, v2], _, hk => exact ⟨k0, k1, k2, v0, v1, v2, rfl, rfl, hk 0 (by simp) (by simp), hk 1 (by simp) (by simp), hk 2 (by simp) (by simp)⟩
    | [], _, _, _ => rw [e] at hlen; simp at hlen
    | [_], _, _, _ => rw [e] at hlen; simp at hlen
    | [_, _], _, _, _ => rw [e] at hlen; simp at hlen
    | _ :: _ :: _ :: _ :: _, _, _, _ => rw [e] at hlen; simp at hlen; omega
    | [_, _, _], [], hl, _ => simp at hl
    | [_, _, _], [_], hl, _ => simp at hl
    | [_, _, _], [_, _], hl, _ => simp at hl
    | [_, _, _], _ :: _ :: _ :: _ :: _, hl, _ => simp at hl
  obtain ⟨f0, f1, f2, f3, f4, f5, f6⟩ := x
  simp only at *
  by_cases h1 : f0 = 1
  · subst h1; exact .inl ⟨rfl, by rw [hn]; simp [exV]⟩
  by_cases h3 : f0 = 3
  · subst h3; exact .inr (.inr (.inl ⟨rfl, by rw [hn]; simp [exV]⟩))
  by_cases h4 : f0 = 4
  · subst h4
    obtain ⟨k0, v0, e1, e2, e3⟩ := one (by simp [ari])
    exact .inr (.inr (.inr (.inl ⟨rfl, k0, v0, e1, e3, by rw [hn, e2]; simp [exV]⟩)))
  by_cases h5 : f0 = 5 ∨ f0 = 20 ∨ f0 = 21
  · obtain ⟨k0, v0, e1, e2, e3⟩ := one (by rcases h5 with rfl | rfl | rfl <;> simp [ari])
    exact .inr (.inr (.inr (.inr (.inl ⟨h5, k0, v0, e1, e3, by rw [hn, e2]; simp [exV, h1, h3, h4, h5]⟩))))
  by_cases h6 : f0 = 6 ∨ f0 = 7
  · obtain ⟨k0, v0, e1, e2, e3⟩ := one (by rcases h6 with rfl | rfl <;> simp [ari])
    exact .inr (.inr (.inr (.inr (.inr (.inl ⟨h6, k0, v0, e1, e3, by rw [hn, e2]; simp [exV, h1, h3, h4, h5, h6]⟩)))))
  by_cases h10 : f0 = 10
  · subst h10
    obtain ⟨k0, k1, k2, v0, v1, v2, e1, e2, e3, e4, e5⟩ := three (by simp [ari])
    exact .inr (.inr (.inr (.inr (.inr (.inr (.inl ⟨rfl, k0, k1, k2, v0, v1, v2, e1, e3, e4, e5, by rw [hn, e2]; simp [exV]⟩))))))
  have hp : 8 ≤ f0 ∧ f0 ≤ 19 ∧ f0 ≠ 10 := by
    simp only [not_or] at h5 h6
    unfold ari at ha
    simp only [h1, h2, h3, h4, h5, h6, h10, false_or, if_false] at ha
    refine ⟨?_, ?_, h10⟩ <;> (apply Classical.byContradiction; intro hc; exact ha (by rw [if_neg (by omega)]))
  obtain ⟨k0, k1, v0, v1, e1, e2, e3, e4⟩ := two (by unfold ari; simp only [not_or] at h5 h6; simp [h1, h2, h3, h4, h5, h6, h10]; omega)
  exact .inr (.inr (.inr (.inr (.inr (.inr (.inr ⟨hp, k0, k1, v0, v1, e1, e3, e4, by rw [hn, e2]; simp [exV, h1, h3, h4, h5, h6, h10]⟩))))))
/-- A variable, or what is none. -/
theorem ExAt.var {w : World} {lo r : Nat} {t : ET} {v : Value} (h : ExAt w lo r t v) (hf : Fit t) :
    (t.n.f0 = 3 ∧ v = .iface 112 (.agg #[.string t.n.f1])) ∨ (t.n.f0 ≠ 3 ∧ ∃ u, v = .iface 76 u ∨ v = .iface 78 u ∨ v = .iface 81 u ∨ v = .iface 83 u ∨ v = .iface 93 u ∨ v = .iface 85 u ∨ v = .iface 119 u) := by
  cases r with
  | zero => cases t; exact h.elim
  | succ r =>
    cases t with
    | node x ks =>
      simp only [ET.n]
      rcases h.view hf with ⟨h1, e⟩ | ⟨h1, sv, e⟩ | ⟨h1, e⟩ | ⟨h1, k0, v0, _, _, e⟩ | ⟨h1, k0, v0, _, _, e⟩ | ⟨h1, k0, v0, _, _, e⟩ | ⟨h1, k0, k1, k2, v0, v1, v2, _, _, _, _, e⟩ | ⟨h1, k0, k1, v0, v1, _, _, _, e⟩
      · exact .inr ⟨by omega, _, .inl e⟩
      · exact .inr ⟨by omega, _, .inr (.inr (.inr (.inr (.inr (.inr (e))))))⟩
      · exact .inl ⟨h1, e⟩
      · exact .inr ⟨by omega, _, .inr (.inl e)⟩
      · exact .inr ⟨by omega, _, .inr (.inr (.inl e))⟩
      · exact .inr ⟨by omega, _, .inr (.inr (.inr (.inl e)))⟩
      · exact .inr ⟨by omega, _, .inr (.inr (.inr (.inr (.inl e))))⟩
      · exact .inr ⟨by omega, _, .inr (.inr (.inr (.inr (.inr (.inl e)))))⟩

set_option maxRecDepth 20000 in
set_option maxHeartbeats 1000000 in
theorem isVarOf_any {wt : World} {lo r : Nat} {t : ET} {v : Value} (h : ExAt wt lo r t v) (hf : Fit t) (a : Option Addr) (len cap : Nat) (ws : List ByteArray) (w : World) (hl : len ≤ 1000000) (hs : SlS w a len ws) :
    Calls Tryz.prog 38 #[v, .slice a len cap] w fun e w' => RetB e (VarT ws t) ∧ Below w.heap.size w w' := by
  rcases h.var hf with ⟨h3, rfl⟩ | ⟨h3, u, h4⟩
  · have q := hide (contains_anyF a len cap ws t.n.f1 (w.alloc (.cells #[.string t.n.f1] 112)) hl (hs.keep (bAl (Below.refl _ _) _)))
    have yes : Hid (VarT ws t ↔ t.n.f1 ∈ ws) := hide (by unfold VarT; simp [h3])
    generalize t.n.f1 = s at *
    have f1 := ta_var_var (.agg #[.string s])
    clear hs h3 h
    go_enter Tryz.func38, Tryz.ntmps38
    go_wp2_with fail
    refine (unhide q).mono ?_
    rintro e w1 ⟨⟨b, rfl, hb⟩, rfl⟩
    have HB := hide hb
    clear hb q f1
    go_wp2_with fail
    go_ret
    exact ⟨retB ((unhide HB).trans (unhide yes).symm), bAl (Below.refl _ _) _⟩
  · have no : Hid (¬ VarT ws t) := hide (fun h => h3 h.1)
    clear hs h3 h
    rcases h4 with rfl | rfl | rfl | rfl | rfl | rfl | rfl
    · have f1 := ta_lit_var u
      go_enter Tryz.func38, Tryz.ntmps38
      go_wp2_with fail
      go_ret
      exact ⟨retB (b := false) ⟨fun h => (by cases h), fun h => absurd h (unhide no)⟩, bAl (Below.refl _ _) _⟩
    · have f1 := ta_get_var u
      go_enter Tryz.func38, Tryz.ntmps38
      go_wp2_with fail
      go_ret
      exact ⟨retB (b := false) ⟨fun h => (by cases h), fun h => absurd h (unhide no)⟩, bAl (Below.refl _ _) _⟩
    · have f1 := ta_word_var u
      go_enter Tryz.func38, Tryz.ntmps38
      go_wp2_with fail
      go_ret
      exact ⟨retB (b := false) ⟨fun h => (by cases h), fun h => absurd h (unhide no)⟩, bAl (Below.refl _ _) _⟩
    · have f1 := ta_sign_var u
      go_enter Tryz.func38, Tryz.ntmps38
      go_wp2_with fail
      go_ret
      exact ⟨retB (b := false) ⟨fun h => (by cases h), fun h => absurd h (unhide no)⟩, bAl (Below.refl _ _) _⟩
    · have f1 := ta_if_var u
      go_enter Tryz.func38, Tryz.ntmps38
      go_wp2_with fail
      go_ret
      exact ⟨retB (b := false) ⟨fun h => (by cases h), fun h => absurd h (unhide no)⟩, bAl (Below.refl _ _) _⟩
    · have f1 := ta_pair_var u
      go_enter Tryz.func38, Tryz.ntmps38
      go_wp2_with fail
      go_ret
      exact ⟨retB (b := false) ⟨fun h => (by cases h), fun h => absurd h (unhide no)⟩, bAl (Below.refl _ _) _⟩
    · have f1 := ta_set_var u
      go_enter Tryz.func38, Tryz.ntmps38
      go_wp2_with fail
      go_ret
      exact ⟨retB (b := false) ⟨fun h => (by cases h), fun h => absurd h (unhide no)⟩, bAl (Below.refl _ _) _⟩
end Go.Proofs.YteaidfighimoiaaGreat.V
