/- laws.markPartS, heldPartS of what is owned. -/
import Derived.Test.YthmjefmljcdpcaaQMrk
namespace Go.Proofs.Ythmjefmljcdpcaa
open Go.RowKit

theorem markP_own (v : Value) (l : List PartT) (base : Nat) (w : World) (hl : l.length ≤ 1000) (hB : base ≤ w.heap.size) (h : w.ownsRow base 62 2 v l.length (partsV l)) :
    Calls Try.prog 18 #[v, .int .i64 1] w fun e w' => e = .returned (.int .i64 (1 + l.length * 2 : Nat)) ∧ MarksP w' v l.length ∧ Below base w w' := by
  rcases h.2 with ⟨rfl, e0⟩ | ⟨g, cap, cur, rfl, hg, hh, hc, _, hsz, _⟩
  · go_enter Try.func18, Try.ntmps18
    go_wp2_with fail
    go_loopw [1, 5] (fun q i w' => i = .int .i64 0 ∧ q = .int .i64 1 ∧ w = w') (fun _ _ _ => 0)
    case atStart => exact ⟨rfl, rfl, rfl⟩
    case round =>
      obtain ⟨rfl, rfl, rfl⟩ := hrel
      go_wp2_with fail
      go_ret
      exact ⟨by rw [e0]; rfl, .inl ⟨rfl, e0⟩, Below.refl _ _⟩
  · have hr : RowIs w g cur 62 := hh
    refine (markP_row g l.length cap cur w hl (by rw [hsz]; omega) hr base hg hB).mono ?_
    rintro e w' ⟨rfl, ⟨C, hr', hM⟩, hb⟩
    exact ⟨rfl, .inr ⟨g, cap, C, rfl, hr', hM⟩, hb⟩
theorem heldP_own (v : Value) (n : Nat) (w : World) (hl : n ≤ 1000) (h : MarksP w v n) :
    Calls Try.prog 19 #[v, .int .i64 1] w fun e w' => e = .returned (.int .i64 (1 + n * 2 : Nat)) ∧ Below w.heap.size w w' := by
  rcases h with ⟨rfl, rfl⟩ | ⟨g, cap, C, rfl, hr, hM⟩
  · go_enter Try.func19, Try.ntmps19
    go_wp2_with fail
    go_loop [1, 5] (fun q i => i = .int .i64 0 ∧ q = .int .i64 1) (fun _ _ => 0)
    case atStart => exact ⟨rfl, rfl⟩
    case round =>
      obtain ⟨rfl, rfl⟩ := hrel
      go_wp2_with fail
      go_ret
      exact ⟨rfl, Below.refl _ _⟩
  · exact heldP_row g n cap C w hl hr hM
theorem own_keepB {B : Nat} {w w' : World} {base n e size : Nat} {v : Value} {xs : List Value} (h : w.ownsRow base e size v n xs) (hb : Below B w w') (hlt : ∀ g, v.ownBlock = some g → g < B) : w'.ownsRow base e size v n xs := by
  refine ⟨h.1, h.2.imp_right ?_⟩
  rintro ⟨g, cap, cur, e', h1, hh, r⟩
  have ho : v.ownBlock = some g := by rw [e']; rfl
  refine ⟨g, cap, cur, e', h1, ?_, r⟩
  rw [hb.block g (hlt g ho)]; exact hh
theorem ReadIs.short {s : ByteArray} {l : List PartT} {ok : Bool} (h : ReadIs s l ok) : l.length ≤ 1000 := by
  rcases h with ⟨_, h, _⟩ | ⟨_, rfl, _⟩
  · have := (dirB_parts h).1; omega
  · exact Nat.zero_le _
/-- Two rows that are owned and hold the same are the same. -/
theorem eqOwn {w : World} {b1 b2 : Nat} {v1 v2 : Value} {l : List PartT} (h1 : w.ownsRow b1 62 2 v1 l.length (partsV l)) (h2 : w.ownsRow b2 62 2 v2 l.length (partsV l)) (hl : l.length ≤ 1000) :
    Calls Try.prog 13 #[v1, v2] w fun e w' => e = .returned (.bool true) ∧ Below w.heap.size w w' := by
  obtain ⟨a1, c1, rfl, s1⟩ := own_parts h1
  obtain ⟨a2, c2, rfl, s2⟩ := own_parts h2
  exact eqPartS_same a1 a2 l.length c1 l.length c2 l w s1 s2 (by unfold maxLen; omega)
end Go.Proofs.Ythmjefmljcdpcaa
