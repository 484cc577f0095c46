/- eqCap, markCap, heldCap of capabilities without terms. -/
import Derived.Test.YtfnjgakjainljaaDoorKMc
namespace Go.Proofs.YtfnjgakjainljaaDoor.D
open Go.RowKit
set_option maxRecDepth 20000

theorem eqTerms_nil (w : World) : Calls Tryd.prog 17 #[.slice none 0 0, .slice none 0 0] w fun e w' => e = .returned (.bool true) ∧ w = w' := by
  go_enter Tryd.func17, Tryd.ntmps17
  go_wp2_with fail
  go_loop [5] (fun i => i = .int .i64 0) (fun _ => 0)
  case atStart => exact rfl
  case round =>
    obtain rfl := hrel
    go_wp2_with fail
    go_ret
    exact ⟨rfl, rfl⟩
theorem markTerms_nil (k : Int) (w : World) : Calls Tryd.prog 18 #[.slice none 0 0, .int .i64 k] w fun e w' => e = .returned (.int .i64 k) ∧ w = w' := by
  go_enter Tryd.func18, Tryd.ntmps18
  go_wp2_with fail
  go_loopw [1, 5] (fun q i w' => i = .int .i64 0 ∧ q = .int .i64 k ∧ w = w') (fun _ _ _ => 0)
  case atStart => exact ⟨rfl, rfl, rfl⟩
  case round =>
    obtain ⟨rfl, rfl, rfl⟩ := hrel
    go_wp2_with fail
    go_ret
    exact ⟨rfl, rfl⟩
theorem heldTerms_nil (k : Int) (w : World) : Calls Tryd.prog 19 #[.slice none 0 0, .int .i64 k] w fun e w' => e = .returned (.int .i64 k) ∧ w = w' := by
  go_enter Tryd.func19, Tryd.ntmps19
  go_wp2_with fail
  go_loopw [1, 5] (fun q i w' => i = .int .i64 0 ∧ q = .int .i64 k ∧ w = w') (fun _ _ _ => 0)
  case atStart => exact ⟨rfl, rfl, rfl⟩
  case round =>
    obtain ⟨rfl, rfl, rfl⟩ := hrel
    go_wp2_with fail
    go_ret
    exact ⟨rfl, rfl⟩
/-- Marks: what is of another block stays. -/
theorem mark_own2 (v : Value) (l : List UInt8) (base : Nat) (w : World) (hl : l.length ≤ 1048576) (hB : base ≤ w.heap.size) (h : w.ownsRow base 5 1 v l.length (l.map byteV)) :
    Calls Tryd.prog 9 #[v, .int .i64 1] w fun e w' => e = .returned (.int .i64 (1 + l.length)) ∧ Marks w' v l.length ∧ Below base w w' ∧ ∀ b C T, b < w.heap.size → v.ownBlock ≠ some b → RowIs w b C T → RowIs w' b C T := by
  rcases h.2 with ⟨rfl, e0⟩ | ⟨g, cap, cur, rfl, hg, hh, _, _, hsz, _⟩
  · go_enter Tryd.func9, Tryd.ntmps9
    go_wp2_with fail
    go_loopw [1, 5] (fun q i w' => i = .int .i64 0 ∧ q = .int .i64 1 ∧ w = w') (fun _ _ _ => 0)
    case atStart => exact ⟨rfl, rfl, rfl⟩
    case round =>
      obtain ⟨rfl, rfl, rfl⟩ := hrel
      go_wp2_with fail
      go_ret
      exact ⟨by rw [e0]; rfl, .inl ⟨rfl, e0⟩, Below.refl _ _, fun _ _ _ _ _ h => h⟩
  · have hr : RowIs w g cur 5 := hh
    refine (mark_any g l.length cap cur 1 w hl (by omega) (by omega) (by rw [hsz]; omega) hr).mono ?_
    rintro e w' ⟨rfl, ⟨C', _, hM, hr'⟩, hb⟩
    refine ⟨rfl, .inr ⟨g, cap, C', rfl, hr', hM⟩, hb.below hg hB, fun b C T _ hn h => hb.row h ?_⟩
    intro e; subst e; exact hn rfl
/-- A row of another type is no row that is owned. -/
theorem own_ne {w : World} {v : Value} {l : List UInt8} {base : Nat} (h : w.ownsRow base 5 1 v l.length (l.map byteV)) : ∀ b C T, RowIs w b C T → T ≠ 5 → v.ownBlock ≠ some b := by
  intro b C T hr hT e
  rcases h.2 with ⟨rfl, _⟩ | ⟨g, cap, cur, rfl, hg, hh, _⟩
  · cases e
  · obtain rfl : g = b := by simpa [Value.ownBlock] using e
    have h1 : w.heap[g]? = some (.cells C T (0, 0)) := hr
    rw [hh] at h1
    simp at h1
    exact hT h1.2.symm
theorem eqCap_any (i : ByteArray) (a b : Option Addr) (la lb ca cb : Nat) (l : List UInt8) (w : World) (hl : la ≤ 1048576) (hlb : lb ≤ 1048576) (ha : SlB w w.heap.size a la l) (hb : SlB w w.heap.size b lb l) :
    Calls Tryd.prog 7 #[.agg #[.string i, .slice none 0 0, .slice a la ca], .agg #[.string i, .slice none 0 0, .slice b lb cb]] w fun e w' => e = .returned (.bool true) ∧ Below w.heap.size w w' := by
  obtain ⟨W, hW⟩ : ∃ W, W = (w.alloc (.cells #[.string i, .slice none 0 0, .slice a la ca] 25)).alloc (.cells #[.string i, .slice none 0 0, .slice b lb cb] 25) := ⟨_, rfl⟩
  have bW : Below w.heap.size w W := by rw [hW]; exact bAl (bAl (Below.refl _ _) _) _
  have HA := hide ((ha.keep bW).mono bW.size)
  have HB := hide ((hb.keep bW).mono bW.size)
  have BW := hide bW
  have RA := hide (show RowIs W w.heap.size #[.string i, .slice none 0 0, .slice a la ca] 25 by rw [hW]; exact (RowIs.new _ _ _).keep (bAl (Below.refl _ _) _))
  have RB := hide (show RowIs W (w.heap.size + 1) #[.string i, .slice none 0 0, .slice b lb cb] 25 by rw [hW]; have := RowIs.new (w.alloc (.cells #[.string i, .slice none 0 0, .slice a la ca] 25)) #[.string i, .slice none 0 0, .slice b lb cb] 25; simpa using this)
  have HW := hide hW.symm
  clear hW bW ha hb
  go_enter Tryd.func7, Tryd.ntmps7
  go_wp2_with fail
  rw [unhide HW]
  refine (eqTerms_nil _).mono ?_
  rintro e w' ⟨rfl, rfl⟩
  have c0 := (unhide RA).at (o := 2) (v := .slice a la ca) rfl
  have c1 := (unhide RB).at (o := 2) (v := .slice b lb cb) rfl
  clear RA RB
  go_wp2_with fail
  refine (eqByteS_any a b la lb ca cb l l _ hl hlb (unhide HA) (unhide HB)).mono ?_
  rintro e w' ⟨rfl, hb⟩
  rw [decide_eq_true (rfl : l = l)]
  have B1 := hide (bTr (unhide BW) hb)
  clear hb
  go_wp2_with fail
  go_ret
  exact ⟨rfl, unhide B1⟩
theorem markCap_any (i : ByteArray) (v : Value) (l : List UInt8) (base : Nat) (w : World) (hl : l.length ≤ 1048576) (hB : base ≤ w.heap.size) (h : w.ownsRow base 5 1 v l.length (l.map byteV)) :
    Calls Tryd.prog 10 #[.agg #[.string i, .slice none 0 0, v], .int .i64 1] w fun e w' => e = .returned (.int .i64 (1 + l.length)) ∧ Marks w' v l.length ∧ Below base w w' ∧ ∀ b C T, b < w.heap.size → v.ownBlock ≠ some b → RowIs w b C T → RowIs w' b C T := by
  obtain ⟨av, capv, rfl, _⟩ := own_sl h
  obtain ⟨W, hW⟩ : ∃ W, W = w.alloc (.cells #[.string i, .slice none 0 0, .slice av l.length capv] 25) := ⟨_, rfl⟩
  have bW : Below w.heap.size w W := by rw [hW]; exact bAl (Below.refl _ _) _
  have O := hide (own_keep h bW)
  have RA := hide (show RowIs W w.heap.size #[.string i, .slice none 0 0, .slice av l.length capv] 25 by rw [hW]; exact RowIs.new _ _ _)
  have BW := hide bW
  have HW := hide hW.symm
  clear hW bW h
  go_enter Tryd.func10, Tryd.ntmps10
  go_wp2_with fail
  rw [unhide HW]
  refine (markTerms_nil _ _).mono ?_
  rintro e w' ⟨rfl, rfl⟩
  have c0 := (unhide RA).at (o := 2) (v := .slice av l.length capv) rfl
  clear RA
  go_wp2_with fail
  refine (mark_own2 _ l base _ hl (Nat.le_trans hB (unhide BW).size) (unhide O)).mono ?_
  rintro e w' ⟨rfl, hM, hb, hX⟩
  have X1 := hide (fun b C T (h1 : b < w.heap.size) h2 (h3 : RowIs w b C T) => hX b C T (Nat.lt_of_lt_of_le h1 (unhide BW).size) h2 (h3.keep (unhide BW)))
  clear hX
  have M1 := hide hM
  have B1 := hide (((unhide BW).mono hB).trans hb)
  clear hM hb
  go_wp2_with fail
  go_ret
  exact ⟨rfl, unhide M1, unhide B1, unhide X1⟩
theorem heldCap_any (i : ByteArray) (v : Value) (n : Nat) (w : World) (hl : n ≤ 1048576) (h : Marks w v n) (hv : ∃ a c, v = .slice a n c) :
    Calls Tryd.prog 11 #[.agg #[.string i, .slice none 0 0, v], .int .i64 1] w fun e w' => e = .returned (.int .i64 (1 + n)) ∧ Below w.heap.size w w' := by
  obtain ⟨av, capv, rfl⟩ := hv
  obtain ⟨W, hW⟩ : ∃ W, W = w.alloc (.cells #[.string i, .slice none 0 0, .slice av n capv] 25) := ⟨_, rfl⟩
  have bW : Below w.heap.size w W := by rw [hW]; exact bAl (Below.refl _ _) _
  have M := hide (h.keep bW)
  have RA := hide (show RowIs W w.heap.size #[.string i, .slice none 0 0, .slice av n capv] 25 by rw [hW]; exact RowIs.new _ _ _)
  have BW := hide bW
  have HW := hide hW.symm
  clear hW bW h
  go_enter Tryd.func11, Tryd.ntmps11
  go_wp2_with fail
  rw [unhide HW]
  refine (heldTerms_nil _ _).mono ?_
  rintro e w' ⟨rfl, rfl⟩
  have c0 := (unhide RA).at (o := 2) (v := .slice av n capv) rfl
  clear RA
  go_wp2_with fail
  refine (held_own _ n _ hl (unhide M)).mono ?_
  rintro e w' ⟨rfl, rfl⟩
  have d0 : ¬ (1 : Int) + (n : Int) < 0 := by omega
  go_wp2_with fail
  go_ret
  exact ⟨rfl, unhide BW⟩
end Go.Proofs.YtfnjgakjainljaaDoor.D
