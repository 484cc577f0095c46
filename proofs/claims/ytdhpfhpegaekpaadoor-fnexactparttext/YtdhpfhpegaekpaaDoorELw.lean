/- strings.ReplaceAll of one byte: each such byte gives way to a text. -/
import Derived.Test.YtdhpfhpegaekpaaDoorUBd
import Derived.Test.YtdhpfhpegaekpaaDoorELv
import Derived.Lib.ReplaceLaws
import Derived.Lib.IndexBytes
import Derived.Lib.SlicesS
namespace Go.Proofs.YtdhpfhpegaekpaaDoor.V
set_option linter.unusedSimpArgs false
set_option linter.unusedVariables false
open Go.RowKit

def repl (c : UInt8) (T s : List UInt8) : List UInt8 := s.flatMap fun b => if b = c then T else [b]
theorem repl_none {c : UInt8} {T : List UInt8} : ∀ {s : List UInt8}, Lib.countByte s c = 0 → repl c T s = s
  | [], _ => rfl
  | b :: s, h => by
    unfold Lib.countByte at h
    rw [List.count_cons] at h
    by_cases e : b = c
    · subst e; simp at h
    · have := repl_none (T := T) (s := s) (c := c) (by unfold Lib.countByte; omega)
      unfold repl at this ⊢
      rw [List.flatMap_cons, if_neg e, this]; rfl
theorem repl_hit {c : UInt8} {T : List UInt8} {g : Nat} : ∀ {s : List UInt8}, Lib.countByte s c = g + 1 → ∃ j : Nat, Lib.indexByte s c = (j : Int) ∧ j < s.length ∧ repl c T s = s.take j ++ T ++ repl c T (s.drop (j + 1)) ∧ Lib.countByte (s.drop (j + 1)) c = g
  | [], h => by simp [Lib.countByte] at h
  | b :: s, h => by
    unfold Lib.countByte at h
    rw [List.count_cons] at h
    by_cases e : b = c
    · subst e
      refine ⟨0, by simp [Lib.indexByte], by simp, by simp [repl], ?_⟩
      unfold Lib.countByte
      simp at h ⊢
      omega
    · rw [if_neg (by simpa using e)] at h
      obtain ⟨j, h1, h2, h3, h4⟩ := repl_hit (T := T) (s := s) (c := c) (g := g) (by unfold Lib.countByte; omega)
      refine ⟨j + 1, ?_, by simp; omega, ?_, by simpa using h4⟩
      · rw [Lib.indexByte, if_neg (by simpa using e), h1, if_neg (by simp <;> omega)]
        rfl
      · unfold repl at h3 ⊢
        rw [List.flatMap_cons, if_neg e, h3]; simp
theorem repl_len {c : UInt8} {T : List UInt8} (hT : T.length ≤ 6) : ∀ (s : List UInt8), (repl c T s).length ≤ 6 * s.length
  | [] => by simp [repl]
  | b :: s => by
    have := repl_len (c := c) hT s
    have e : repl c T (b :: s) = (if b = c then T else [b]) ++ repl c T s := rfl
    rw [e, List.length_append, List.length_cons]
    by_cases h : b = c
    · rw [if_pos h]; omega
    · rw [if_neg h, List.length_singleton]; omega
theorem get_one (c : UInt8) (h : 0 < (⟨#[c]⟩ : ByteArray).size) : (⟨#[c]⟩ : ByteArray)[0]'h = c := rfl
theorem list_one (c : UInt8) : (⟨#[c]⟩ : ByteArray).toList = [c] := by simp
theorem u8_back (c : UInt8) : c.toNat.toUInt8 = c := by simp

set_option maxRecDepth 100000 in
set_option maxHeartbeats 1000000 in
theorem count_one (s : ByteArray) (c : UInt8) (w : World) :
    Calls Tryd.prog 71 #[.string s, .string ⟨#[c]⟩] w fun e w' => e = .returned (.int .i64 (Lib.countByte s.data.toList c)) ∧ w' = w := by
  have rc : ∀ w : World, (callFunc 76 #[.string s, .int .u8 (c.toNat : Int)]).run Tryd.prog w = .ok (.value (.int .i64 (Lib.countByte s.data.toList c))) w := by
    intro w
    rw [run_callFunc_extern Tryd.func76 (by kernel_rfl) (by kernel_rfl) (by kernel_rfl) (e := Extern.BytealgCount.count) (by kernel_rfl), Lib.run_countString]
    simp only [Result.andThen, Int.toNat_natCast, u8_back]
  go_enter Tryd.func71, Tryd.ntmps71
  go_wp2_with fail
  rw [get_one, rc, Oper.upon_value]
  go_wp2_with fail
  go_ret
  exact ⟨rfl, rfl⟩

set_option maxRecDepth 100000 in
set_option maxHeartbeats 1000000 in
theorem index_one (s : ByteArray) (c : UInt8) (w : World) :
    Calls Tryd.prog 78 #[.string s, .string ⟨#[c]⟩] w fun e w' => e = .returned (.int .i64 (Lib.indexByte s.data.toList c)) ∧ w' = w := by
  by_cases he : (⟨#[c]⟩ : ByteArray) = s
  · have hbeq : ([c] == s.toList) = true := by rw [← list_one]; exact (Lib.bytes_beq_iff _ _).2 he
    have hz : Lib.indexByte s.data.toList c = 0 := by subst he; simp [Lib.indexByte]
    rw [hz]
    clear he hz
    go_enter Tryd.func78, Tryd.ntmps78
    go_wp2_with fail
    go_ret
    exact ⟨rfl, rfl⟩
  · have hbeq : ([c] == s.toList) = false := by rw [← list_one]; exact (Lib.bytes_beq_false_iff _ _).2 he
    clear he
    have q := hide (Tryd.stringslite_IndexByte s (c.toNat : Int) w)
    rw [Int.toNat_natCast, u8_back] at q
    go_enter Tryd.func78, Tryd.ntmps78
    go_wp2_with fail
    rw [get_one]
    refine (unhide q).mono ?_
    rintro e w' ⟨rfl, rfl⟩
    go_wp2_with fail
    go_ret
    exact ⟨rfl, rfl⟩
set_option maxRecDepth 100000 in
theorem sindex_one (s : ByteArray) (c : UInt8) (w : World) :
    Calls Tryd.prog 73 #[.string s, .string ⟨#[c]⟩] w fun e w' => e = .returned (.int .i64 (Lib.indexByte s.data.toList c)) ∧ w' = w := by
  have q := hide (index_one s c w)
  go_enter Tryd.func73, Tryd.ntmps73
  go_wp2_with fail
  refine (unhide q).mono ?_
  rintro e w' ⟨rfl, rfl⟩
  go_wp2_with fail
  go_ret
  exact ⟨rfl, rfl⟩
end Go.Proofs.YtdhpfhpegaekpaaDoor.V
