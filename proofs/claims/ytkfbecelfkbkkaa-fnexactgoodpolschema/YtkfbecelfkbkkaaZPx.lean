/- Prefixes: strings.TrimPrefix, CutPrefix; spec.l11Head, l3Has. -/
import Derived.Test.YtkfbecelfkbkkaaZRow
import Derived.Test.YtkfbecelfkbkkaaWVal
namespace Go.Proofs.Ytkfbecelfkbkkaa.V
set_option linter.unusedSimpArgs false
set_option linter.unusedVariables false
open Go.RowKit

def preB (s p : ByteArray) : Bool := decide (p.size ≤ s.size) && ((s.extract 0 p.size).toList == p.toList)
def hdB (s p : ByteArray) : Bool := decide (p.size < s.size) && ((s.extract 0 p.size).toList == p.toList)
theorem hasPrefix_any (s p : ByteArray) (w : World) (h1 : s.size ≤ maxLen) (h2 : p.size ≤ maxLen) :
    Calls Try.prog 172 #[.string s, .string p] w fun e w' => e = .returned (.bool (preB s p)) ∧ w = w' := by
  unfold maxLen at h1 h2
  by_cases h : p.size ≤ s.size
  · have hp : Hid (preB s p = ((s.extract 0 p.size).toList == p.toList)) := hide (by simp [preB, h])
    have d : decide ((p.size : Int) ≤ s.size) = true := decide_eq_true (by omega)
    go_enter Try.func172, Try.ntmps172
    go_wp2_with fail
    go_ret
    exact ⟨ret_bool (unhide hp).symm, rfl⟩
  · have hp : Hid (preB s p = false) := hide (by simp [preB, h])
    have d : decide ((p.size : Int) ≤ s.size) = false := by simp; omega
    go_enter Try.func172, Try.ntmps172
    go_wp2_with fail
    go_ret
    exact ⟨ret_bool (unhide hp).symm, rfl⟩
theorem l11Head_any (s p : ByteArray) (w : World) (h1 : s.size ≤ maxLen) (h2 : p.size ≤ maxLen) :
    Calls Try.prog 114 #[.string s, .string p] w fun e w' => e = .returned (.bool (hdB s p)) ∧ w = w' := by
  unfold maxLen at h1 h2
  by_cases h : p.size < s.size
  · have hp : Hid (hdB s p = ((s.extract 0 p.size).toList == p.toList)) := hide (by simp [hdB, h])
    have d : decide ((p.size : Int) < s.size) = true := decide_eq_true (by omega)
    go_enter Try.func114, Try.ntmps114
    go_wp2_with fail
    go_ret
    exact ⟨ret_bool (unhide hp).symm, rfl⟩
  · have hp : Hid (hdB s p = false) := hide (by simp [hdB, h])
    have d : decide ((p.size : Int) < s.size) = false := by simp; omega
    go_enter Try.func114, Try.ntmps114
    go_wp2_with fail
    go_ret
    exact ⟨ret_bool (unhide hp).symm, rfl⟩
def cutB (s p : ByteArray) : ByteArray := if preB s p = true then s.extract p.size s.size else s
theorem preB_le {s p : ByteArray} (h : preB s p = true) : p.size ≤ s.size := by unfold preB at h; simp at h; exact h.1
theorem trimPrefix_any (s p : ByteArray) (w : World) (h1 : s.size ≤ maxLen) (h2 : p.size ≤ maxLen) :
    Calls Try.prog 161 #[.string s, .string p] w fun e w' => e = .returned (.string (cutB s p)) ∧ w = w' := by
  have q := hide (fun w => hasPrefix_any s p w h1 h2)
  have t : Hid (Calls Try.prog 169 #[.string s, .string p] w fun e w' => e = .returned (.string (cutB s p)) ∧ w = w') := hide (by
    unfold maxLen at h1 h2
    cases hp : preB s p
    · rw [hp] at q
      have hc : Hid (cutB s p = s) := hide (by simp [cutB, hp])
      clear hp
      go_enter Try.func169, Try.ntmps169
      go_wp2_with fail
      refine (unhide q _).mono ?_
      rintro e w1 ⟨rfl, rfl⟩
      go_wp2_with fail
      go_ret
      exact ⟨congrArg (fun x => Ending.returned (.string x)) (unhide hc).symm, rfl⟩
    · have hle := preB_le hp
      rw [hp] at q
      have hc : Hid (cutB s p = s.extract p.size s.size) := hide (by simp [cutB, hp])
      clear hp
      go_enter Try.func169, Try.ntmps169
      go_wp2_with fail
      refine (unhide q _).mono ?_
      rintro e w1 ⟨rfl, rfl⟩
      go_wp2_with fail
      go_ret
      exact ⟨congrArg (fun x => Ending.returned (.string x)) (unhide hc).symm, rfl⟩)
  clear q h1 h2
  generalize cutB s p = c at t ⊢
  go_enter Try.func161, Try.ntmps161
  go_wp2_with fail
  refine (unhide t).mono ?_
  rintro e w1 ⟨rfl, rfl⟩
  go_wp2_with fail
  go_ret
  exact ⟨rfl, rfl⟩
theorem cutPrefix_any (s p : ByteArray) (w : World) (h1 : s.size ≤ maxLen) (h2 : p.size ≤ maxLen) :
    Calls Try.prog 162 #[.string s, .string p] w fun e w' => e = .returned (.tuple #[.string (cutB s p), .bool (preB s p)]) ∧ w = w' := by
  have q := hide (fun w => hasPrefix_any s p w h1 h2)
  have t : Hid (Calls Try.prog 170 #[.string s, .string p] w fun e w' => e = .returned (.tuple #[.string (cutB s p), .bool (preB s p)]) ∧ w = w') := hide (by
    unfold maxLen at h1 h2
    cases hp : preB s p
    · rw [hp] at q
      have hc : Hid (cutB s p = s) := hide (by simp [cutB, hp])
      clear hp
      go_enter Try.func170, Try.ntmps170
      go_wp2_with fail
      refine (unhide q _).mono ?_
      rintro e w1 ⟨rfl, rfl⟩
      go_wp2_with fail
      exact bodyPost_ret (v := .tuple #[.string s, .bool false]) (by simp [results, Try.results170, go_sem]) rfl ⟨congrArg (fun x => Ending.returned (.tuple #[.string x, .bool false])) (unhide hc).symm, rfl⟩
    · have hle := preB_le hp
      rw [hp] at q
      have hc : Hid (cutB s p = s.extract p.size s.size) := hide (by simp [cutB, hp])
      clear hp
      go_enter Try.func170, Try.ntmps170
      go_wp2_with fail
      refine (unhide q _).mono ?_
      rintro e w1 ⟨rfl, rfl⟩
      go_wp2_with fail
      exact bodyPost_ret (v := .tuple #[.string (s.extract p.size s.size), .bool true]) (by simp [results, Try.results170, go_sem]) rfl ⟨congrArg (fun x => Ending.returned (.tuple #[.string x, .bool true])) (unhide hc).symm, rfl⟩)
  clear q h1 h2
  generalize cutB s p = c at t ⊢
  generalize preB s p = d at t ⊢
  go_enter Try.func162, Try.ntmps162
  go_wp2_with fail
  refine (unhide t).mono ?_
  rintro e w1 ⟨rfl, rfl⟩
  go_wp2_with fail
  exact bodyPost_ret (v := .tuple #[.string c, .bool d]) (by simp [results, Try.results162, go_sem]) rfl ⟨rfl, rfl⟩
theorem str_neY {a b : ByteArray} (h : ¬ a = b) : (ByteArray.toList a == ByteArray.toList b) = false := by
  have : ¬ a.toList = b.toList := fun e => h (by
    rw [ByteArray.toList_eq, ByteArray.toList_eq] at e
    exact Go.WideShapes.bytes_inj e)
  simpa using this
theorem str_eqY (a : ByteArray) : (ByteArray.toList a == ByteArray.toList a) = true := by simp

set_option maxHeartbeats 400000 in
theorem l3Has_anyY (a : Option Addr) (len cap : Nat) (l : List ByteArray) (s : ByteArray) (w : World) (hl : len ≤ 1000000) (hs : SlS w a len l) :
    Calls Try.prog 115 #[.slice a len cap, .string s] w fun e w' => RetB e (s ∈ l) ∧ w = w' := by
  have HS := hide hs
  clear hs
  go_enter Try.func115, Try.ntmps115
  go_wp2_with fail
  go_loopw [9] (fun i wx => ∃ k : Nat, k ≤ len ∧ i = .int .i64 k ∧ Hid (¬ s ∈ l.take k) ∧ wx = w) (fun i _ => len - (Go.RowKit.intOf i).toNat)
  case atStart => exact ⟨0, Nat.zero_le _, rfl, hide (by simp), rfl⟩
  case round =>
    obtain ⟨k, hk, rfl, hn, rfl⟩ := hrel
    by_cases hlt : k < len
    · have hk' : k < l.length := by rw [← (unhide HS).1]; exact hlt
      obtain ⟨b, off, rfl, hrow⟩ := (unhide HS).at hlt
      have c0 := hrow.c k hk'
      have zk := hrow.z
      have eY : Hid (l[k] = s → s ∈ l) := hide (fun e => e ▸ List.getElem_mem hk')
      have eN : Hid (¬ l[k] = s → ¬ s ∈ l.take (k + 1)) := hide (fun e h => by
        rw [List.take_succ_eq_append_getElem hk', List.mem_append, List.mem_singleton] at h
        rcases h with h | h
        · exact unhide hn h
        · exact e h.symm)
      clear hrow
      generalize l[k] = A at c0 eY eN
      by_cases he : A = s
      · replace eY := hide (unhide eY he)
        subst he
        clear eN
        go_wp2_with fail
        go_ret
        exact ⟨retB (b := true) ⟨fun _ => unhide eY, fun _ => rfl⟩, rfl⟩
      · replace eN := hide (unhide eN he)
        have hne := str_neY he
        clear eY he
        go_wp2_with fail
        exact ⟨⟨k + 1, by omega, by go_num, eN, trivial⟩, by simp [Go.RowKit.intOf]; omega⟩
    · have hN : Hid (¬ s ∈ l) := hide (fun h => unhide hn (by rw [List.take_of_length_le (by have := (unhide HS).1; omega)]; exact h))
      go_wp2_with fail
      go_ret
      exact ⟨retB (b := false) ⟨fun h => (by cases h), fun h => absurd h (unhide hN)⟩, rfl⟩
def setP : ByteArray := ⟨#[115, 101, 116, 32]⟩
def refP : ByteArray := ⟨#[114, 101, 102, 32]⟩
def six : List ByteArray := [⟨#[98, 111, 111, 108]⟩, ⟨#[110, 117, 109]⟩, ⟨#[116, 101, 120, 116]⟩, ⟨#[100, 101, 99]⟩, ⟨#[97, 100, 100, 114]⟩, ⟨#[116, 105, 109, 101]⟩]
/-- The bytes behind the first four. -/
def rest4 (s : ByteArray) : ByteArray := s.extract 4 s.size
def baseOk (b : ByteArray) : Prop := b ∈ six ∨ (hdB b refP = true ∧ goodName (rest4 b) = true)
theorem setP_size : setP.size = 4 := rfl
theorem refP_size : refP.size = 4 := rfl
theorem hd_pre (s p : ByteArray) : hdB s p = true ↔ (preB s p = true ∧ s.size ≠ p.size) := by
  unfold hdB preB
  simp only [Bool.and_eq_true, decide_eq_true_iff]
  constructor
  · rintro ⟨a, b⟩; exact ⟨⟨by omega, b⟩, by omega⟩
  · rintro ⟨⟨a, b⟩, c⟩; exact ⟨by omega, b⟩
theorem goodName_empty : goodName ⟨#[]⟩ = false := by decide
theorem six_pre : ∀ b ∈ six, preB b refP = false ∧ preB b setP = false := by
  intro b hb
  simp only [six, List.mem_cons, List.not_mem_nil, or_false] at hb
  rcases hb with rfl | rfl | rfl | rfl | rfl | rfl <;> exact ⟨by first | decide | kernel_rfl | decide +kernel, by first | decide | kernel_rfl | decide +kernel⟩
end Go.Proofs.Ytkfbecelfkbkkaa.V
