/- Marks on a slice that is owned. -/
import Derived.Test.YtfnjgakjainljaaDoorDByt
namespace Go.Proofs.YtfnjgakjainljaaDoor.D
set_option maxRecDepth 20000
open Go.RowKit

/-- A slice that may be marked, and whose marks are held. -/
def Marks (w : World) (v : Value) (n : Nat) : Prop := (v = .slice none 0 0 ∧ n = 0) ∨ ∃ g cap C, v = .slice (some ⟨g, 0, none⟩) n cap ∧ RowIs w g C 5 ∧ MarkedTo C 1 n
theorem Marks.keep {w w' : World} {v : Value} {n : Nat} (h : Marks w v n) (hb : Below w.heap.size w w') : Marks w' v n :=
  h.imp_right fun ⟨g, cap, C, e, r, m⟩ => ⟨g, cap, C, e, r.keep hb, m⟩
theorem mark_own (v : Value) (l : List UInt8) (base : Nat) (w : World) (hl : l.length ≤ 1048576) (hB : base ≤ w.heap.size) (h : w.ownsRow base 5 1 v l.length (l.map byteV)) :
    Calls Tryd.prog 9 #[v, .int .i64 1] w fun e w' => e = .returned (.int .i64 (1 + l.length)) ∧ Marks w' v l.length ∧ Below base w w' := by
  rcases h.2 with ⟨rfl, e0⟩ | ⟨g, cap, cur, rfl, hg, hh, _, _, hsz, _⟩
  · go_enter Tryd.func9, Tryd.ntmps9
    go_wp2_with fail
    go_loopw [1, 5] (fun q i w' => i = .int .i64 0 ∧ q = .int .i64 1 ∧ w = w') (fun _ _ _ => 0)
    case atStart => exact ⟨rfl, rfl, rfl⟩
    case round =>
      obtain ⟨rfl, rfl, rfl⟩ := hrel
      go_wp2_with fail
      go_ret
      exact ⟨by rw [e0]; rfl, .inl ⟨rfl, e0⟩, Below.refl _ _⟩
  · have hr : RowIs w g cur 5 := hh
    refine (mark_any g l.length cap cur 1 w hl (by omega) (by omega) (by rw [hsz]; omega) hr).mono ?_
    rintro e w' ⟨rfl, ⟨C', _, hM, hr'⟩, hb⟩
    exact ⟨rfl, .inr ⟨g, cap, C', rfl, hr', hM⟩, hb.below hg hB⟩
theorem held_own (v : Value) (n : Nat) (w : World) (hl : n ≤ 1048576) (h : Marks w v n) :
    Calls Tryd.prog 20 #[v, .int .i64 1] w fun e w' => e = .returned (.int .i64 (1 + n)) ∧ w = w' := by
  rcases h with ⟨rfl, rfl⟩ | ⟨g, cap, C, rfl, hr, hM⟩
  · go_enter Tryd.func20, Tryd.ntmps20
    go_wp2_with fail
    go_loop [1, 5] (fun q i => i = .int .i64 0 ∧ q = .int .i64 1) (fun _ _ => 0)
    case atStart => exact ⟨rfl, rfl⟩
    case round =>
      obtain ⟨rfl, rfl⟩ := hrel
      go_wp2_with fail
      go_ret
      exact ⟨rfl, rfl⟩
  · exact held_any g n cap C 1 w hl (by omega) (by omega) hM hr

end Go.Proofs.YtfnjgakjainljaaDoor.D
