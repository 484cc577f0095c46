/- A '~' in a text: spec.l4Tilde, strings.Contains at one byte. -/
import Derived.Test.YtpdnimchmgbijaaQDir
import Derived.Lib.Bytealg
namespace Go.Proofs.Ytpdnimchmgbijaa
open Go.RowKit

def nt1 (b : UInt8) : Bool := !(b == 126)
/-- No '~' in it. -/
def ntB (s : ByteArray) : Bool := s.data.toList.all nt1

theorem index_til (l : List UInt8) : decide (0 ≤ Lib.indexByte l 126) = !(l.all nt1) := by
  induction l with
  | nil => rfl
  | cons b l ih =>
    have hg := Lib.indexByte_ge l 126
    unfold Lib.indexByte
    rw [List.all_cons]
    unfold nt1 at ih ⊢
    cases hb : (b == 126)
    · rw [if_neg (by simp)]
      by_cases h1 : Lib.indexByte l 126 = -1
      · rw [h1] at ih
        rw [if_pos (by rw [h1]; rfl)]
        simpa using ih
      · rw [if_neg (by simpa using h1)]
        have : decide (0 ≤ Lib.indexByte l 126 + 1) = decide (0 ≤ Lib.indexByte l 126) := by
          rw [decide_eq_decide]; omega
        rw [this, ih]; simp
    · rw [if_pos rfl]; rfl

theorem nt1_of (s : ByteArray) (k : Nat) (h : k < s.size) : nt1 s[k] = !((s[k].toNat : Int) == 126) := by
  unfold nt1
  congr 1
  rw [Bool.eq_iff_iff]
  simp only [beq_iff_eq]
  constructor
  · intro h; rw [h]; rfl
  · intro h
    have : s[k].toNat = 126 := by omega
    exact UInt8.toNat_inj.1 this

theorem l4Tilde_any (s : ByteArray) (hs : s.size ≤ maxLen) (w : World) :
    Calls Try.prog 41 #[.string s] w fun e w' => e = .returned (.bool (!ntB s)) ∧ w = w' := by
  unfold maxLen at hs
  go_enter Try.func41, Try.ntmps41
  go_wp2
  go_loop [3] (fun i => ∃ k : Nat, k ≤ s.size ∧ i = .int .i64 k ∧ Hid ((s.data.toList.take k).all nt1 = true)) (fun i => s.size - (intOf i).toNat)
  case atStart => exact ⟨0, Nat.zero_le _, rfl, hide (by simp)⟩
  case round =>
    obtain ⟨k, hk, rfl, hall⟩ := hrel
    by_cases hlt : k < s.size
    · have HP := hide (nt1_of s k hlt)
      cases hq : ((s[k].toNat : Int) == 126)
      all_goals
        rw [hq] at HP
        go_wp2
        first
          | exact ⟨⟨k + 1, by omega, by go_num, hide (by rw [all_take_succ _ _ _ hlt, unhide hall, unhide HP]; rfl)⟩, by simp [intOf]; omega⟩
          | (go_ret; exact ⟨ret_bool (by unfold ntB; rw [all_false_of _ s k hlt (by rw [unhide HP]; rfl)]; rfl), rfl⟩)
    · go_wp2
      go_ret
      have e : k = s.size := by omega
      subst e
      exact ⟨ret_bool (by unfold ntB; rw [← take_whole s, unhide hall]; rfl), rfl⟩

set_option maxRecDepth 100000 in
theorem slIndexByte_any (s : ByteArray) (c : Int) (w : World) :
    Calls Try.prog 85 #[.string s, .int .u8 c] w fun e w' => e = .returned (.int .i64 (Lib.indexByte s.data.toList c.toNat.toUInt8)) ∧ w = w' := by
  go_enter Try.func85, Try.ntmps85
  go_wp2
  rw [run_callFunc_extern Try.func89 (by kernel_rfl) (by kernel_rfl) (by kernel_rfl) (e := Extern.BytealgIndexByte.indexByte) (by kernel_rfl), Lib.run_indexByteString]
  simp only [Result.andThen]
  rw [Oper.upon_value]
  go_wp2
  go_ret
  exact ⟨rfl, rfl⟩

theorem slIndex_one (s : ByteArray) (w : World) :
    Calls Try.prog 83 #[.string s, .string ⟨#[126]⟩] w fun e w' => e = .returned (.int .i64 (Lib.indexByte s.data.toList 126)) ∧ w = w' := by
  have q := hide (fun w => slIndexByte_any s 126 w)
  cases hq : (([126] : List UInt8) == s.toList)
  case true =>
    have e : s.data.toList = [126] := by rw [← ByteArray.toList_eq]; exact (eq_of_beq hq).symm
    have E0 := hide (show Lib.indexByte s.data.toList 126 = 0 by rw [e]; rfl)
    clear e q
    go_enter Try.func83, Try.ntmps83
    go_wp2_with fail
    go_ret
    exact ⟨by rw [unhide E0]; rfl, rfl⟩
  go_enter Try.func83, Try.ntmps83
  go_wp2_with (go_at_call 85; refine (unhide q _).mono ?_; rintro e w' ⟨rfl, rfl⟩)
  go_ret
  exact ⟨rfl, rfl⟩

theorem sIndex_one (s : ByteArray) (w : World) :
    Calls Try.prog 75 #[.string s, .string ⟨#[126]⟩] w fun e w' => e = .returned (.int .i64 (Lib.indexByte s.data.toList 126)) ∧ w = w' := by
  have q := hide (fun w => slIndex_one s w)
  generalize Lib.indexByte s.data.toList 126 = I at q
  go_enter Try.func75, Try.ntmps75
  go_wp2_with (go_at_call 83; refine (unhide q _).mono ?_; rintro e w' ⟨rfl, rfl⟩)
  go_ret
  exact ⟨rfl, rfl⟩

theorem contains_til (s : ByteArray) (w : World) :
    Calls Try.prog 61 #[.string s, .string ⟨#[126]⟩] w fun e w' => e = .returned (.bool (!ntB s)) ∧ w = w' := by
  have q := hide (fun w => sIndex_one s w)
  have hi := index_til s.data.toList
  generalize Lib.indexByte s.data.toList 126 = I at q hi
  have HI := hide hi
  clear hi
  go_enter Try.func61, Try.ntmps61
  go_wp2_with (go_at_call 75; refine (unhide q _).mono ?_; rintro e w' ⟨rfl, rfl⟩)
  go_ret
  refine ⟨ret_bool ?_, rfl⟩
  unfold ntB
  rw [← unhide HI]
end Go.Proofs.Ytpdnimchmgbijaa
