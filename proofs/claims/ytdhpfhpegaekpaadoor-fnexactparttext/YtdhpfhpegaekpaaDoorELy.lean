/- marked: a text with the four signs told by their marks. -/
import Derived.Test.YtdhpfhpegaekpaaDoorELx
import Derived.Laws.Rows
namespace Go.Proofs.YtdhpfhpegaekpaaDoor.V
set_option linter.unusedSimpArgs false
set_option linter.unusedVariables false
open Go.RowKit

set_option maxRecDepth 100000 in
theorem replaceAll_one (s new : ByteArray) (c : UInt8) (w : World) (hs : s.size ≤ 100000) (hn1 : 1 ≤ new.size) (hn : new.size ≤ 6) (hne : (⟨#[c]⟩ : ByteArray) ≠ new) :
    Calls Tryd.prog 54 #[.string s, .string ⟨#[c]⟩, .string new] w fun e w' =>
      e = .returned (.string ⟨(repl c new.data.toList s.data.toList).toArray⟩) ∧ Below w.heap.size w w' := by
  have q := hide (replace_one s new c w hs hn1 hn hne)
  go_enter Tryd.func54, Tryd.ntmps54
  go_wp2_with fail
  refine (unhide q).mono ?_
  rintro e w1 ⟨rfl, hb⟩
  go_wp2_with fail
  go_ret
  exact ⟨rfl, hb⟩

def M4 : List (UInt8 × List UInt8) := [(38, [38, 97, 109, 112, 59]), (60, [38, 108, 116, 59]), (62, [38, 103, 116, 59]), (34, [38, 113, 117, 111, 116, 59])]
def mkd (k : Nat) (s : List UInt8) : List UInt8 := (M4.take k).foldl (fun s p => repl p.1 p.2 s) s
def exb (b : UInt8) : List UInt8 := if b = 38 then [38, 97, 109, 112, 59] else if b = 60 then [38, 108, 116, 59] else if b = 62 then [38, 103, 116, 59] else if b = 34 then [38, 113, 117, 111, 116, 59] else [b]
/-- A text as it stands in a document. -/
def ex (s : List UInt8) : List UInt8 := s.flatMap exb
theorem exb_len (b : UInt8) : 1 ≤ (exb b).length ∧ (exb b).length ≤ 6 := by
  unfold exb
  repeat' split
  all_goals simp
theorem ex_len : ∀ (s : List UInt8), (ex s).length ≤ 6 * s.length
  | [] => by simp [ex]
  | b :: s => by
    have := ex_len s
    have e : ex (b :: s) = exb b ++ ex s := rfl
    have := (exb_len b).2
    rw [e, List.length_append, List.length_cons]; omega
theorem repl_flat (c : UInt8) (T : List UInt8) (f : UInt8 → List UInt8) (s : List UInt8) : repl c T (s.flatMap f) = s.flatMap fun b => repl c T (f b) := by
  unfold repl; rw [List.flatMap_assoc]
theorem mkd_ex (s : List UInt8) : mkd 4 s = ex s := by
  have e : mkd 4 s = repl 34 [38, 113, 117, 111, 116, 59] (repl 62 [38, 103, 116, 59] (repl 60 [38, 108, 116, 59] (repl 38 [38, 97, 109, 112, 59] (s.flatMap fun b => [b])))) := by
    rw [List.flatMap_singleton']; rfl
  rw [e, repl_flat, repl_flat, repl_flat, repl_flat]
  unfold ex
  congr 1
  funext b
  unfold exb
  by_cases h1 : b = 38
  · subst h1; decide
  by_cases h2 : b = 60
  · subst h2; decide
  by_cases h3 : b = 62
  · subst h3; decide
  by_cases h4 : b = 34
  · subst h4; decide
  simp [repl, h1, h2, h3, h4]
theorem mkd_len (k : Nat) (hk : k ≤ 3) (s : List UInt8) (hs : s.length ≤ 200) : (mkd k s).length ≤ 43200 := by
  have a1 := repl_len (c := 38) (T := [38, 97, 109, 112, 59]) (by decide) s
  have a2 := repl_len (c := 60) (T := [38, 108, 116, 59]) (by decide) (mkd 1 s)
  have a3 := repl_len (c := 62) (T := [38, 103, 116, 59]) (by decide) (mkd 2 s)
  have e0 : mkd 0 s = s := rfl
  have e1 : mkd 1 s = repl 38 [38, 97, 109, 112, 59] s := rfl
  have e2 : mkd 2 s = repl 60 [38, 108, 116, 59] (mkd 1 s) := rfl
  have e3 : mkd 3 s = repl 62 [38, 103, 116, 59] (mkd 2 s) := rfl
  rw [← e1] at a1; rw [← e2] at a2; rw [← e3] at a3
  have : k = 0 ∨ k = 1 ∨ k = 2 ∨ k = 3 := by omega
  rcases this with rfl | rfl | rfl | rfl
  · rw [e0]; omega
  · omega
  · omega
  · omega

def marksA : Array Value := #[.string ⟨#[38]⟩, .string ⟨#[38, 97, 109, 112, 59]⟩, .string ⟨#[60]⟩, .string ⟨#[38, 108, 116, 59]⟩, .string ⟨#[62]⟩, .string ⟨#[38, 103, 116, 59]⟩, .string ⟨#[34]⟩, .string ⟨#[38, 113, 117, 111, 116, 59]⟩]
def MarksAt (w : World) : Prop := ∃ t fr, w.heap[0]? = some (.cells marksA t fr)
theorem MarksAt.keep {w w' : World} (h : MarksAt w) (hb : Below w.heap.size w w') : MarksAt w' := by
  obtain ⟨t, fr, h⟩ := h
  exact ⟨t, fr, (hb.block _ (Array.getElem?_eq_some_iff.1 h).1).trans h⟩

theorem idxM0 (w : World) : (Instr.index 86 (.agg marksA) (.int .i64 0)).run Tryd.prog w = .ok (.agg #[.string ⟨#[38]⟩, .string ⟨#[38, 97, 109, 112, 59]⟩]) w := by kernel_rfl
theorem idxM1 (w : World) : (Instr.index 86 (.agg marksA) (.int .i64 1)).run Tryd.prog w = .ok (.agg #[.string ⟨#[60]⟩, .string ⟨#[38, 108, 116, 59]⟩]) w := by kernel_rfl
theorem idxM2 (w : World) : (Instr.index 86 (.agg marksA) (.int .i64 2)).run Tryd.prog w = .ok (.agg #[.string ⟨#[62]⟩, .string ⟨#[38, 103, 116, 59]⟩]) w := by kernel_rfl
theorem idxM3 (w : World) : (Instr.index 86 (.agg marksA) (.int .i64 3)).run Tryd.prog w = .ok (.agg #[.string ⟨#[34]⟩, .string ⟨#[38, 113, 117, 111, 116, 59]⟩]) w := by kernel_rfl

set_option maxRecDepth 100000 in
set_option maxHeartbeats 4000000 in
theorem marked_any (s : ByteArray) (w : World) (hs : s.size ≤ 200) (hm : MarksAt w) :
    Calls Tryd.prog 38 #[.string s] w fun e w' => e = .returned (.string ⟨(ex s.data.toList).toArray⟩) ∧ Below w.heap.size w w' := by
  obtain ⟨tM, fr, hM⟩ := hm
  go_enter Tryd.func38, Tryd.ntmps38
  go_wp2_with (refine wpList_load_row rfl 86 _ rfl 0 rfl tM _ fr _ hM Tryd.underlying86 rfl (by kernel_rfl) ?_)
  go_loopw [0, 6] (fun t i w' => ∃ k : Nat, i = .int .i64 k ∧ k ≤ 4 ∧ t = .string ⟨(mkd k s.data.toList).toArray⟩ ∧ Hid (Below w.heap.size w w')) (fun _ i _ => 4 - (Go.RowKit.intOf i).toNat)
  case atStart => exact ⟨0, rfl, by omega, by simp [mkd], hide (Below.refl _ _)⟩
  case round =>
    obtain ⟨k, rfl, hk, rfl, HW⟩ := hrel
    have hBw : w.heap.size ≤ wr.heap.size := (unhide HW).size
    by_cases h4 : k = 4
    · subst h4
      rw [mkd_ex]
      go_wp2_with fail
      go_ret
      exact ⟨rfl, unhide HW⟩
    have h3 : k = 0 ∨ k = 1 ∨ k = 2 ∨ k = 3 := by omega
    have hl := mkd_len k (by omega) s.data.toList (by rw [← Lib.size_eq]; exact hs)
    rcases h3 with rfl | rfl | rfl | rfl
    · have ix := fun w => idxM0 w
      have q := fun w => hide (replaceAll_one ⟨(mkd 0 s.data.toList).toArray⟩ ⟨#[38, 97, 109, 112, 59]⟩ 38 w (Nat.le_trans hl (by omega)) (by decide) (by decide) (by decide))
      go_wp2_with fail
      refine (unhide (q _)).mono ?_
      rintro e w2 ⟨rfl, hb2⟩
      have Hb2 := hide ((bAl (unhide HW) _).trans (hb2.mono (by simp <;> omega)))
      clear hb2 ix q
      go_wp2_with fail
      go_roundw
      case measure => simp [Go.RowKit.intOf] <;> omega
      case rel => exact ⟨0 + 1, rfl, by omega, rfl, Hb2⟩
    · have ix := fun w => idxM1 w
      have q := fun w => hide (replaceAll_one ⟨(mkd 1 s.data.toList).toArray⟩ ⟨#[38, 108, 116, 59]⟩ 60 w (Nat.le_trans hl (by omega)) (by decide) (by decide) (by decide))
      go_wp2_with fail
      refine (unhide (q _)).mono ?_
      rintro e w2 ⟨rfl, hb2⟩
      have Hb2 := hide ((bAl (unhide HW) _).trans (hb2.mono (by simp <;> omega)))
      clear hb2 ix q
      go_wp2_with fail
      go_roundw
      case measure => simp [Go.RowKit.intOf] <;> omega
      case rel => exact ⟨1 + 1, rfl, by omega, rfl, Hb2⟩
    · have ix := fun w => idxM2 w
      have q := fun w => hide (replaceAll_one ⟨(mkd 2 s.data.toList).toArray⟩ ⟨#[38, 103, 116, 59]⟩ 62 w (Nat.le_trans hl (by omega)) (by decide) (by decide) (by decide))
      go_wp2_with fail
      refine (unhide (q _)).mono ?_
      rintro e w2 ⟨rfl, hb2⟩
      have Hb2 := hide ((bAl (unhide HW) _).trans (hb2.mono (by simp <;> omega)))
      clear hb2 ix q
      go_wp2_with fail
      go_roundw
      case measure => simp [Go.RowKit.intOf] <;> omega
      case rel => exact ⟨2 + 1, rfl, by omega, rfl, Hb2⟩
    · have ix := fun w => idxM3 w
      have q := fun w => hide (replaceAll_one ⟨(mkd 3 s.data.toList).toArray⟩ ⟨#[38, 113, 117, 111, 116, 59]⟩ 34 w (Nat.le_trans hl (by omega)) (by decide) (by decide) (by decide))
      go_wp2_with fail
      refine (unhide (q _)).mono ?_
      rintro e w2 ⟨rfl, hb2⟩
      have Hb2 := hide ((bAl (unhide HW) _).trans (hb2.mono (by simp <;> omega)))
      clear hb2 ix q
      go_wp2_with fail
      go_roundw
      case measure => simp [Go.RowKit.intOf] <;> omega
      case rel => exact ⟨3 + 1, rfl, by omega, rfl, Hb2⟩
end Go.Proofs.YtdhpfhpegaekpaaDoor.V
