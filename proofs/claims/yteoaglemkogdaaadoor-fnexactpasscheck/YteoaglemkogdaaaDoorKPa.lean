/- PassHash on both sides. -/
import Derived.Test.YteoaglemkogdaaaDoorDMac
import Derived.Laws.IdiomStrings
namespace Go.Proofs.YteoaglemkogdaaaDoor.D
set_option maxRecDepth 20000
open Go.RowKit

/-- What comes out of a pass and a salt after so many rounds. -/
def hsh (p s : List UInt8) : Nat → List UInt8
  | 0 => s
  | n + 1 => mac p (hsh p s n)
theorem hsh_len (p s : List UInt8) (n : Nat) (h : 0 < n) : (hsh p s n).length = 16 := by
  cases n with
  | zero => omega
  | succ n => exact mac_len _ _
def hashD (p s : List UInt8) (n : Int) : List UInt8 := if p.length ≤ 64 ∧ s.length ≤ 64 ∧ 1 ≤ n ∧ n ≤ 1000 then hsh p s n.toNat else []


/-- The bytes of a text in a new block. -/
theorem conv_bytes (p : ByteArray) (w : World) : ∃ cap w1, (convert 9 22 (.string p)).run Tryd.prog w = .ok (.slice (some ⟨w.heap.size, 0, none⟩) p.size cap) w1 ∧ Below w.heap.size w w1 ∧ SlB w1 w1.heap.size (some ⟨w.heap.size, 0, none⟩) p.size p.data.toList := by
  refine ⟨_, _, run_bytes_of_string w 9 22 5 p Tryd.underlying9 Tryd.underlying22 Tryd.underlying5, ((Below.refl _ _).drew).alloc (Nat.le_refl _) _, ?_⟩
  generalize grownCap w p.size 0 5 = G
  have hz : w.heap.size < (w.drew.alloc (.cells (bytesRow p G) 5 ((bytesRow p G).size, (bytesRow p G).size + 1))).heap.size := by
    show w.heap.size < (w.heap.push _).size; simp
  refine ⟨by simp, .inr ⟨w.heap.size, 0, rfl, hz, hz, fun i hi => ?_⟩⟩
  have hi' : i < p.data.size := by simpa using hi
  have hh : (w.drew.alloc (.cells (bytesRow p G) 5 ((bytesRow p G).size, (bytesRow p G).size + 1))).heap[w.heap.size]? = some (.cells (bytesRow p G) 5 ((bytesRow p G).size, (bytesRow p G).size + 1)) := by
    show (w.heap.push _)[w.heap.size]? = _; simp
  simp only [World.cell?, hh]
  simp only [bytesRow, byteV]
  rw [Array.getElem?_append_left (by simpa using hi')]
  simp
  exact ⟨_, Array.getElem?_eq_getElem hi', rfl⟩
set_option maxHeartbeats 1000000 in
theorem l16Hash_any (p : ByteArray) (a : Option Addr) (len cap : Nat) (s : List UInt8) (n : Nat) (w : World) (h1 : p.size ≤ 64) (h2 : len ≤ 64) (h3 : 1 ≤ n) (h4 : n ≤ 1000) (hs : SlB w w.heap.size a len s) :
    Calls Tryd.prog 16 #[.string p, .slice a len cap, .int .i64 n] w fun e w' => ∃ v D, Hid (D = hsh p.data.toList s n) ∧ e = .returned v ∧ w'.ownsRow w.heap.size 5 1 v D.length (D.map byteV) ∧ Below w.heap.size w w' := by
  obtain ⟨cp, w1, hc, hb1, hs1⟩ := conv_bytes p w
  have HP := hide hs1
  have HS := hide ((hs.keep hb1).mono hb1.size)
  have B1 := hide hb1
  have hp : p.size ≤ 1048576 := by omega
  clear hs hs1 hb1
  go_enter Tryd.func16, Tryd.ntmps16
  go_wp2_with fail
  clear hc
  refine (l2Mac_any _ a p.size cp len cap p.data.toList s w1 hp (by omega) (unhide HP) (unhide HS)).mono ?_
  rintro e w2 ⟨v2, D2, hD2, rfl, ho2, hb2⟩
  have P2 := hide (((unhide HP).keep hb2).mono hb2.size)
  have O2 := hide (own_mono ho2 (unhide B1).size)
  have B2 := hide (bTr (unhide B1) hb2)
  clear HP HS B1 ho2 hb2
  go_wp2_with fail
  go_loopw [8, 9] (fun v i w' => ∃ (k : Nat) (D : List UInt8), 1 ≤ k ∧ k ≤ n ∧ i = .int .i64 k ∧ Hid (D = hsh p.data.toList s k) ∧ Hid (w'.ownsRow w.heap.size 5 1 v D.length (D.map byteV)) ∧ Hid (SlB w' w'.heap.size (some ⟨w.heap.size, 0, none⟩) p.size p.data.toList) ∧ Hid (Below w.heap.size w w')) (fun _ i _ => n - (intOf i).toNat)
  case atStart => exact ⟨1, D2, by omega, by omega, rfl, hD2, O2, P2, B2⟩
  case round =>
    obtain ⟨k, D, hk1, hk, rfl, hD, hO, hP, hB⟩ := hrel
    by_cases hlt : k < n
    · have hd16 := hide (show D.length = 16 by rw [unhide hD]; exact hsh_len _ _ _ (by omega))
      obtain ⟨a3, c3, rfl, hs3⟩ := own_sl (unhide hO)
      have S3 := hide hs3
      clear hs3
      go_wp2_with fail
      refine (l2Mac_any _ a3 p.size cp D.length c3 p.data.toList D wr hp (by rw [unhide hd16]; omega) (unhide hP) (unhide S3)).mono ?_
      rintro e w4 ⟨v4, D4, hD4, rfl, ho4, hb4⟩
      have P4 := hide (((unhide hP).keep hb4).mono hb4.size)
      have O4 := hide (own_mono ho4 (unhide hB).size)
      have B4 := hide (bTr (unhide hB) hb4)
      have E4 := hide (show D4 = hsh p.data.toList s (k + 1) by rw [unhide hD4, unhide hD]; rfl)
      clear ho4 hb4 hO hP hB S3 hD4
      go_wp2_with fail
      exact ⟨⟨k + 1, D4, by omega, by omega, by go_num, E4, O4, P4, B4⟩, by simp [intOf]; omega⟩
    · go_wp2_with fail
      go_ret
      obtain rfl : k = n := by omega
      exact ⟨_, D, hD, rfl, unhide hO, unhide hB⟩
theorem between_any (a b c : Int) (w : World) : Calls Tryd.prog 17 #[.int .i64 a, .int .i64 b, .int .i64 c] w fun e w' => e = .returned (.bool (decide (a ≤ b ∧ b ≤ c))) ∧ w = w' := by
  go_enter Tryd.func17, Tryd.ntmps17
  go_wp2
  all_goals go_ret
  all_goals refine ⟨congrArg (fun b => Ending.returned (.bool b)) ?_, rfl⟩
  all_goals (rw [Bool.eq_iff_iff]; simp; try omega)
theorem hashD_no {p s : List UInt8} {n : Int} (h : ¬ (p.length ≤ 64 ∧ s.length ≤ 64 ∧ 1 ≤ n ∧ n ≤ 1000)) : [] = hashD p s n := (if_neg h).symm
theorem hashD_yes {p s : List UInt8} {n : Nat} (h : p.length ≤ 64 ∧ s.length ≤ 64 ∧ 1 ≤ n ∧ n ≤ 1000) : hsh p s n = hashD p s n := by
  unfold hashD; rw [if_pos (by omega), Int.toNat_natCast]
theorem hashD_len (p s : List UInt8) (n : Int) : (hashD p s n).length ≤ 16 := by
  unfold hashD; split
  · rw [hsh_len _ _ _ (by omega)]; omega
  · simp
set_option maxHeartbeats 2000000 in
theorem sPassHash_any (p : ByteArray) (a : Option Addr) (len cap : Nat) (s : List UInt8) (n : Int) (w : World) (h1 : p.size ≤ 1048576) (h2 : len ≤ 1048576) (hs : SlB w w.heap.size a len s) :
    Calls Tryd.prog 5 #[.string p, .slice a len cap, .int .i64 n] w fun e w' => ∃ v D, Hid (D = hashD p.data.toList s n) ∧ e = .returned v ∧ w'.ownsRow w.heap.size 5 1 v D.length (D.map byteV) ∧ Below w.heap.size w w' := by
  have el := hide hs.1
  have ep := hide (show p.data.toList.length = p.size by simp)
  by_cases hg : p.size ≤ 64 ∧ len ≤ 64 ∧ 1 ≤ n ∧ n ≤ 1000
  · obtain ⟨g1, g2, g3, g4⟩ := hg
    obtain ⟨m, rfl⟩ := Int.eq_ofNat_of_zero_le (show 0 ≤ n by omega)
    have hy := hide (hashD_yes (p := p.data.toList) (s := s) (n := m) ⟨by rw [unhide ep]; omega, by rw [← unhide el]; omega, by omega, by omega⟩)
    have q := hide (l16Hash_any p a len cap s m w (by omega) (by omega) (by omega) (by omega) hs)
    clear hs el ep
    go_enter Tryd.func5, Tryd.ntmps5
    go_wp2_with fail
    refine (unhide q).mono ?_
    rintro e w2 ⟨v2, D2, hD2, rfl, ho2, hb2⟩
    go_wp2_with fail
    go_ret
    exact ⟨_, D2, hide ((unhide hD2).trans (unhide hy)), rfl, ho2, hb2⟩
  · have hn := hide (hashD_no (p := p.data.toList) (s := s) (n := n) (by rw [unhide ep, ← unhide el]; exact hg))
    have hq : 64 < p.size ∨ 64 < len ∨ n < 1 ∨ 1000 < n := by omega
    clear hs el ep hg
    go_enter Tryd.func5, Tryd.ntmps5
    go_wp2_with fail
    all_goals go_ret
    all_goals exact ⟨_, [], unhide hn |> hide, rfl, World.ownsRow_nil _ _ _ _, Below.refl _ _⟩
set_option maxHeartbeats 2000000 in
theorem iPassHash_nil (p : ByteArray) (a : Option Addr) (len cap : Nat) (s : List UInt8) (n : Int) (w : World) (h1 : p.size ≤ 1048576) (h2 : len ≤ 1048576) (hs : SlB w w.heap.size a len s) (hM : Mults w) :
    Calls Tryd.prog 7 #[.string p, .slice a len cap, .int .i64 n] w fun e w' => ∃ v D, Hid (D = hashD p.data.toList s n) ∧ e = .returned v ∧ w'.ownsRow w.heap.size 5 1 v D.length (D.map byteV) ∧ Below w.heap.size w w' ∧ Hid (v = .slice none 0 0 ∨ D.length = 16) := by
  have el := hide hs.1
  have ep := hide (show p.data.toList.length = p.size by simp)
  have q0 := hide (between_any 1 n 1000)
  have HM := hide hM
  have h00 := hM.1
  clear hM
  by_cases hg : p.size ≤ 64 ∧ len ≤ 64 ∧ 1 ≤ n ∧ n ≤ 1000
  · obtain ⟨g1, g2, g3, g4⟩ := hg
    rw [decide_eq_true ⟨g3, g4⟩] at q0
    obtain ⟨m, rfl⟩ := Int.eq_ofNat_of_zero_le (show 0 ≤ n by omega)
    have hy := hide (hashD_yes (p := p.data.toList) (s := s) (n := m) ⟨by rw [unhide ep]; omega, by rw [← unhide el]; omega, by omega, by omega⟩)
    have HS := hide hs
    have ep64 := hide (show p.data.toList.length ≤ 20000 by rw [unhide ep]; omega)
    have es64 := hide (show s.length ≤ 20000 by rw [← unhide el]; omega)
    clear hs ep
    go_enter Tryd.func7, Tryd.ntmps7
    go_wp2_with (go_at_call 17; refine (unhide q0 _).mono ?_; rintro e w' ⟨rfl, rfl⟩)
    go_loopw [7, 23] (fun v i w' => ∃ (k ln cp : Nat) (ad : Option Addr) (D : List UInt8), k ≤ m ∧ i = .int .i64 k ∧ v = .slice ad ln cp ∧ ln ≤ 1048576 ∧ Hid (D = hsh p.data.toList s k) ∧ Hid (0 < k → w'.ownsRow w.heap.size 5 1 v D.length (D.map byteV)) ∧ Hid (SlB w' w'.heap.size ad ln D) ∧ Hid (D.length ≤ 20000) ∧ Hid (Below w.heap.size w w')) (fun _ i _ => m - (intOf i).toNat)
    case atStart => exact ⟨0, len, cap, a, s, by omega, rfl, rfl, by omega, hide rfl, hide (fun h => absurd h (Nat.lt_irrefl _)), HS, es64, hide (Below.refl _ _)⟩
    case round =>
      obtain ⟨k, ln, cp, ad, D, hk, rfl, rfl, hln, hD, hO, hS, hd, hB⟩ := hrel
      by_cases hlt : k < m
      · obtain ⟨c5, w5, hc, hb5, hs5⟩ := conv_bytes p wr
        have P5 := hide hs5
        have S5 := hide (((unhide hS).keep hb5).mono hb5.size)
        have B5 := hide (bTr (unhide hB) hb5)
        have i1 : (k : Int) < (m : Int) := by omega
        clear hs5 hS hO hb5
        go_wp2_with fail
        clear hc
        refine (iMac_any _ ad p.size c5 ln cp p.data.toList D w5 h1 hln (unhide P5) (unhide S5) ((unhide HM).keepB (unhide B5) h00)).mono ?_
        rintro e w4 ⟨v4, D4, hD4, rfl, ho4, hb4⟩
        have E4 := hide (show D4 = hsh p.data.toList s (k + 1) by rw [unhide hD4, ← macD_yes ⟨unhide ep64, unhide hd⟩, unhide hD]; rfl)
        have l4 := hide (show D4.length = 16 by rw [unhide E4]; exact hsh_len _ _ _ (by omega))
        obtain ⟨a4, c4, rfl, hs4⟩ := own_sl ho4
        have O4 := hide (own_mono ho4 (unhide B5).size)
        have S4 := hide hs4
        have B4 := hide (bTr (unhide B5) hb4)
        clear ho4 hb4 hB S5 P5 B5 hD4 hs4
        go_wp2_with fail
        exact ⟨⟨k + 1, D4.length, c4, a4, D4, by omega, by go_num, rfl, by rw [unhide l4]; omega, E4, hide (fun _ => unhide O4), S4, hide (by rw [unhide l4]; omega), B4⟩, by simp [intOf]; omega⟩
      · go_wp2_with fail
        go_ret
        obtain rfl : k = m := by omega
        exact ⟨_, D, hide ((unhide hD).trans (unhide hy)), rfl, unhide hO (by omega), unhide hB, hide (.inr (by rw [unhide hD]; exact hsh_len _ _ _ (by omega)))⟩
  · have hn := hide (hashD_no (p := p.data.toList) (s := s) (n := n) (by rw [unhide ep, ← unhide el]; exact hg))
    by_cases g1 : 64 < p.size
    · clear hs el ep hg q0
      go_enter Tryd.func7, Tryd.ntmps7
      go_wp2_with fail
      go_ret
      exact ⟨_, [], unhide hn |> hide, rfl, World.ownsRow_nil _ _ _ _, Below.refl _ _, hide (.inl rfl)⟩
    by_cases g2 : 64 < len
    · clear hs el ep hg q0
      go_enter Tryd.func7, Tryd.ntmps7
      go_wp2_with fail
      go_ret
      exact ⟨_, [], unhide hn |> hide, rfl, World.ownsRow_nil _ _ _ _, Below.refl _ _, hide (.inl rfl)⟩
    rw [decide_eq_false (show ¬ (1 ≤ n ∧ n ≤ 1000) by omega)] at q0
    clear hs el ep hg
    go_enter Tryd.func7, Tryd.ntmps7
    go_wp2_with (go_at_call 17; refine (unhide q0 _).mono ?_; rintro e w' ⟨rfl, rfl⟩)
    go_ret
    exact ⟨_, [], unhide hn |> hide, rfl, World.ownsRow_nil _ _ _ _, Below.refl _ _, hide (.inl rfl)⟩
theorem iPassHash_any (p : ByteArray) (a : Option Addr) (len cap : Nat) (s : List UInt8) (n : Int) (w : World) (h1 : p.size ≤ 1048576) (h2 : len ≤ 1048576) (hs : SlB w w.heap.size a len s) (hM : Mults w) :
    Calls Tryd.prog 7 #[.string p, .slice a len cap, .int .i64 n] w fun e w' => ∃ v D, Hid (D = hashD p.data.toList s n) ∧ e = .returned v ∧ w'.ownsRow w.heap.size 5 1 v D.length (D.map byteV) ∧ Below w.heap.size w w' :=
  (iPassHash_nil p a len cap s n w h1 h2 hs hM).mono fun _ _ ⟨v, D, a1, a2, a3, a4, _⟩ => ⟨v, D, a1, a2, a3, a4⟩
end Go.Proofs.YteoaglemkogdaaaDoor.D
