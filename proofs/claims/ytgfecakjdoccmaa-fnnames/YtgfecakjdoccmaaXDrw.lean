/- spec.DrawReadName. -/
import Derived.Test.YtgfecakjdoccmaaXDir
import Derived.Test.YtgfecakjdoccmaaXUnd
namespace Go.Proofs.Ytgfecakjdoccmaa.C
open Go.RowKit

theorem DN.ok {l : List PartT} (h : DN l) : ∀ q ∈ l, PartT.Ok q := fun q hq => ⟨by have := h.2.2 q hq; unfold maxLen; omega, by have := h.2.2 q hq; unfold maxLen; omega⟩
theorem DN.text {l : List PartT} (h : DN l) : (nameT l).size ≤ 1000 := by
  unfold nameT
  split
  · rename_i hd
    have hp := (dirB_parts hd).2
    have := inter_len (l.map ptext) (fun x hx => by obtain ⟨p, hp', rfl⟩ := List.mem_map.1 hx; exact ptext_len (hp p hp'))
    have h3 := h.2.1
    show (nameL' l).toArray.size ≤ _
    rw [List.size_toArray]
    unfold nameL'
    rw [List.length_map] at this
    omega
  · decide

set_option maxHeartbeats 1000000 in
theorem drawReadName_any (a : Option Addr) (len cap : Nat) (w : World) (hcode : CodeAt w w.heap.size a len) :
    Calls Try.prog 14 #[.slice a len cap] w fun e w' => (∃ t : ByteArray, t.size ≤ 1100 ∧ e = .returned (.string t)) ∧ Below w.heap.size w w' := by
  have HC := hide hcode
  clear hcode
  go_enter Try.func14, Try.ntmps14
  go_wp2_with fail
  refine (dirName_any w.heap.size 0 _ (by omega) (cur_new (unhide HC) cap)).mono ?_
  rintro e w1 ⟨v, l, rfl, hd, hs⟩
  obtain ⟨a1, c1, rfl, hsl⟩ := own_parts hs.o
  have Z := hide hs
  have HD := hide hd
  have HS := hide hsl
  have hl : l.length ≤ maxLen := by have := hd.2.1; unfold maxLen; omega
  have qn := hide (sNameText_any a1 l.length c1 l w1 hl hsl hd.ok)
  have tz := hd.text
  clear hs hd hsl hl
  generalize nameT l = T at qn tz
  go_wp2_with fail
  refine (unhide qn).mono ?_
  rintro e w2 ⟨rfl, hb2⟩
  have C2 := hide ((unhide Z).c.keep hb2)
  have B2 := hide ((unhide Z).t.trans (But.of hb2))
  clear hb2 qn
  go_wp2_with fail
  refine (spoilt_cur w.heap.size 10 T _ _ (by omega) tz (by decide) (by decide) (unhide C2)).mono ?_
  rintro e w3 ⟨⟨s, hs, rfl⟩, _, hb3⟩
  have B3 := hide ((But.refl w.heap.size w).al (.cells #[.slice a len cap, .int .i64 0, .int .u64 0] 49) |>.trans ((unhide B2).trans hb3))
  clear hb3
  go_wp2_with fail
  go_ret
  exact ⟨⟨s, by omega, rfl⟩, (unhide B3).below (Nat.le_refl _) (Nat.le_refl _)⟩
end Go.Proofs.Ytgfecakjdoccmaa.C
