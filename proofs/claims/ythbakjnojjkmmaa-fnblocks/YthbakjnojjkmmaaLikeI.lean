/- impl.Like (16). -/
import Derived.Test.YthbakjnojjkmmaaMeet
namespace Go.Proofs.Ythbakjnojjkmmaa
open Go.RowKit

def Likes (t p : ByteArray) : Prop := t.size ≤ 200 ∧ p.size ≤ 200 ∧ ∃ ts, toks p.data.toList = some ts ∧ Mt ts t.data.toList
theorem toks_len200 {p : ByteArray} (h : p.size ≤ 200) {ts : List (Option UInt8)} (e : toks p.data.toList = some ts) : ts.length ≤ 200 := by
  have := toks_len _ _ (Nat.le_refl _) ts e
  have : p.data.toList.length = p.size := by simp
  omega

set_option maxHeartbeats 1000000 in
theorem iLike_any (t p : ByteArray) (w : World) (ht : t.size ≤ maxLen) (hp : p.size ≤ maxLen) :
    Calls Try.prog 16 #[.string t, .string p] w fun e w' => RetB e (Likes t p) ∧ Below w.heap.size w w' := by
  unfold maxLen at ht hp
  by_cases h1 : 200 < t.size
  · have d1 : decide (200 < (t.size : Int)) = true := by simp; omega
    have hn : Hid (¬ Likes t p) := hide (fun h => by have := h.1; omega)
    go_enter Try.func16, Try.ntmps16
    go_wp2_with fail
    go_ret
    exact ⟨retB (b := false) ⟨fun h => (by cases h), fun h => absurd h (unhide hn)⟩, Below.refl _ _⟩
  have d1 : decide (200 < (t.size : Int)) = false := by simp; omega
  by_cases h2 : 200 < p.size
  · have d2 : decide (200 < (p.size : Int)) = true := by simp; omega
    have hn : Hid (¬ Likes t p) := hide (fun h => by have := h.2.1; omega)
    go_enter Try.func16, Try.ntmps16
    go_wp2_with fail
    go_ret
    exact ⟨retB (b := false) ⟨fun h => (by cases h), fun h => absurd h (unhide hn)⟩, Below.refl _ _⟩
  have d2 : decide (200 < (p.size : Int)) = false := by simp; omega
  have q1 := hide (fun w => patternParts_any p (by omega) w)
  have q2 := hide (fun a len cap ts w hl hp => meetsParts_any t a len cap ts w (by omega) hl hp)
  have b1 : Hid (t.size ≤ 200) := hide (by omega)
  have b2 : Hid (p.size ≤ 200) := hide (by omega)
  go_enter Try.func16, Try.ntmps16
  go_wp2_with fail
  refine (unhide q1 _).mono ?_
  rintro e w1 ⟨hT, hb1⟩
  rcases hT with ⟨hn, rfl⟩ | ⟨ts, v, hts, rfl, hown⟩
  · have hn' : Hid (¬ Likes t p) := hide (fun ⟨_, _, ts, h, _⟩ => by rw [hn] at h; cases h)
    clear hn
    go_wp2_with fail
    go_ret
    exact ⟨retB (b := false) ⟨fun h => (by cases h), fun h => absurd h (unhide hn')⟩, hb1⟩
  · obtain ⟨a, cap, rfl, hsp⟩ := own_parts hown
    have hl := toks_len200 (unhide b2) hts
    have hy : Hid (Likes t p ↔ Mt ts t.data.toList) := hide ⟨fun ⟨_, _, us, h, h'⟩ => by rw [hts] at h; cases h; exact h', fun h => ⟨unhide b1, unhide b2, ts, hts, h⟩⟩
    have HSP := hide hsp
    clear hown hts hsp
    go_wp2_with fail
    refine (unhide q2 _ _ _ _ _ hl (unhide HSP)).mono ?_
    rintro e w2 ⟨⟨b, rfl, hb⟩, hb2⟩
    have HB := hide hb
    clear hb
    go_wp2_with fail
    go_ret
    exact ⟨retB (by rw [unhide hy]; exact unhide HB), bTr hb1 hb2⟩
end Go.Proofs.Ythbakjnojjkmmaa
