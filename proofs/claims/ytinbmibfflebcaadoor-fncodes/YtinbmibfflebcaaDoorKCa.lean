/- CodeOf on both sides. -/
import Derived.Test.YtinbmibfflebcaaDoorKCp
import Derived.Test.YtinbmibfflebcaaDoorDLk
import Derived.Laws.IdiomStrings
namespace Go.Proofs.YtinbmibfflebcaaDoor.D
set_option maxRecDepth 20000
open Go.RowKit

theorem between_any (a b c : Int) (w : World) : Calls Tryd.prog 17 #[.int .i64 a, .int .i64 b, .int .i64 c] w fun e w' => e = .returned (.bool (decide (a ≤ b ∧ b ≤ c))) ∧ w = w' := by
  go_enter Tryd.func17, Tryd.ntmps17
  go_wp2
  all_goals go_ret
  all_goals refine ⟨congrArg (fun b => Ending.returned (.bool b)) ?_, rfl⟩
  all_goals (rw [Bool.eq_iff_iff]; simp; try omega)
set_option maxHeartbeats 1000000 in
theorem goodCodes_any (a : Option Addr) (len cap : Nat) (s : List UInt8) (c d : Int) (w : World) (hl : len = s.length) :
    Calls Tryd.prog 16 #[.slice a len cap, .int .i64 c, .int .i64 d] w fun e w' => e = .returned (.bool (decide (CodeOk s c d))) ∧ w = w' := by
  have hd : decide (CodeOk s c d) = (decide ((1 : Int) ≤ len ∧ (len : Int) ≤ 64) && (decide (0 ≤ c ∧ c ≤ 1000000000000) && decide (4 ≤ d ∧ d ≤ 8))) := by
    rw [Bool.eq_iff_iff, Bool.and_eq_true, Bool.and_eq_true, decide_eq_true_eq, decide_eq_true_eq, decide_eq_true_eq, decide_eq_true_eq]; unfold CodeOk; omega
  rw [hd]; clear hd
  have q0 := hide (fun w => between_any 1 len 64 w)
  have q1 := hide (fun w => between_any 0 c 1000000000000 w)
  have q2 := hide (fun w => between_any 4 d 8 w)
  generalize decide ((1 : Int) ≤ len ∧ (len : Int) ≤ 64) = d0 at *
  generalize decide (0 ≤ c ∧ c ≤ 1000000000000) = d1 at *
  generalize decide (4 ≤ d ∧ d ≤ 8) = d2 at *
  clear hl
  cases d0 <;> cases d1 <;> cases d2
  all_goals
    go_enter Tryd.func16, Tryd.ntmps16
    go_wp2_with (go_at_call 17; (first | with_reducible refine (unhide q0 _).mono ?_ | with_reducible refine (unhide q1 _).mono ?_ | with_reducible refine (unhide q2 _).mono ?_); rintro e w' ⟨rfl, rfl⟩)
    go_ret
    exact ⟨by first | rfl | simp, rfl⟩
set_option maxHeartbeats 1000000 in
theorem iCodeOf_any (a : Option Addr) (len cap : Nat) (s : List UInt8) (c d : Int) (w : World) (hl : len ≤ 1048576) (hs : SlB w w.heap.size a len s) (hM : Mults w) (hT : Tab w) :
    Calls Tryd.prog 7 #[.slice a len cap, .int .i64 c, .int .i64 d] w fun e w' => e = .returned (.string ⟨(codeD s c d).toArray⟩) ∧ Below w.heap.size w w' := by
  have q0 := hide (goodCodes_any a len cap s c d w hs.1)
  by_cases hg : CodeOk s c d
  · rw [decide_eq_true hg] at q0
    have HS := hide hs
    have HM := hide hM
    have HT := hide hT
    have h00 := hM.1
    have G := hg
    obtain ⟨⟨g1, g2⟩, ⟨g3, g4⟩, g5, g6⟩ := hg
    have el := hide hs.1
    clear hs hM hT
    obtain ⟨cn, rfl⟩ := Int.eq_ofNat_of_zero_le g3
    obtain ⟨dn, rfl⟩ := Int.eq_ofNat_of_zero_le (show 0 ≤ d by omega)
    have EC := hide (codeD_yes G)
    clear G
    have k64 := hide (show s.length ≤ 20000 by omega)
    have cq : (cn : Int) / 4294967296 = ((cn / 4294967296 : Nat) : Int) := by omega
    obtain ⟨qn, hqn⟩ : ∃ q, cn / 4294967296 = q := ⟨_, rfl⟩
    rw [hqn] at cq
    have HQ := hide hqn
    clear hqn
    have qr : Hid (∀ w, Calls Tryd.prog 23 #[.string ⟨#[48]⟩, .int .i64 dn] w fun e w' => e = .returned (.string ⟨(List.replicate dn (48 : UInt8)).toArray⟩) ∧ Below w.heap.size w w') := hide (fun w => by
      have := Tryd.strings_Repeat ⟨#[48]⟩ dn w (by omega) (by show 1 * dn ≤ _; omega)
      rwa [show (⟨#[48]⟩ : ByteArray).data.toList = [48] from rfl, rep_one] at this)
    obtain ⟨Z, hZ⟩ : ∃ Z : ByteArray, ⟨(List.replicate dn (48 : UInt8)).toArray⟩ = Z := ⟨_, rfl⟩
    have HZ := hide (show Z.data.toList = List.replicate dn 48 by rw [← hZ])
    have zZ : Z.size = dn := by rw [← hZ]; show (List.replicate dn (48 : UInt8)).toArray.size = dn; simp
    rw [hZ] at qr
    clear hZ
    go_enter Tryd.func7, Tryd.ntmps7
    go_wp2_with (go_at_call 16; refine (unhide q0).mono ?_; rintro e w' ⟨rfl, rfl⟩)
    refine (asBytes_any cn w).mono ?_
    rintro e w1 ⟨rfl, hr1, hb1⟩
    have R1 := hide hr1
    have B1 := hide hb1
    clear hr1 hb1 q0
    go_wp2_with fail
    refine (asBytes_any qn w1).mono ?_
    rintro e w2 ⟨rfl, hr2, hb2⟩
    have R1' := hide ((unhide R1).keep hb2)
    have R2 := hide hr2
    have B2 := hide (bTr (unhide B1) hb2)
    clear hr2 hb2 R1 cq
    obtain ⟨x1, hx1⟩ : ∃ b, b = w.heap.size := ⟨_, rfl⟩
    obtain ⟨x2, hx2⟩ : ∃ b, b = w1.heap.size := ⟨_, rfl⟩
    rw [← hx1] at R1' ⊢
    rw [← hx2] at R2 ⊢
    have BA := hide (bAl (Below.refl w2.heap.size w2) (.cells #[.slice (some ⟨x1, 0, none⟩) 4 4, .slice (some ⟨x2, 0, none⟩) 4 4] 22))
    have RG := hide (RowIs.new w2 #[.slice (some ⟨x1, 0, none⟩) 4 4, .slice (some ⟨x2, 0, none⟩) 4 4] 22)
    have BB := hide (bTr (unhide B2) (unhide BA))
    have S1 := hide (slB_row ((unhide R1').keep (unhide BA)) ((unhide R1').keep (unhide BA)).lt)
    have S2 := hide (slB_row ((unhide R2).keep (unhide BA)) ((unhide R2).keep (unhide BA)).lt)
    clear hx1 hx2 R1' R2
    go_wp2_with fail
    refine (concat_any w2.heap.size x1 0 4 4 x2 0 4 4 (bytes4 cn) (bytes4 qn) _ (by decide) (by decide) (by decide) (unhide RG) (unhide S1) (unhide S2)).mono ?_
    rintro e w3 ⟨v3, D3, hD3, rfl, ho3, hb3⟩
    have l3 := hide (show D3.length = 8 by rw [unhide hD3]; rfl)
    obtain ⟨b3, c3, rfl, _, _, _, hs3⟩ := own_some ho3 (by rw [unhide l3]; decide)
    have S3 := hide hs3
    have B3 := hide (bTr (unhide BB) hb3)
    clear ho3 hs3 hb3 BB BA RG S1 S2 B1 B2
    go_wp2_with fail
    refine (unhide qr _).mono ?_
    rintro e w4 ⟨rfl, hb4⟩
    have S4 := hide (((unhide S3).keep hb4).mono hb4.size)
    have B4 := hide (bTr (unhide B3) hb4)
    clear hb4 S3 B3 qr
    go_wp2_with fail
    refine (iMac_any a _ len cap D3.length c3 s D3 w4 hl (by rw [unhide l3]; decide) (((unhide HS).keepB (unhide B4)).mono (unhide B4).size) (unhide S4) ((unhide HM).keepB (unhide B4) h00)).mono ?_
    rintro e w5 ⟨v5, D5, hD5, rfl, ho5, hb5⟩
    have E5 := hide (show D5 = mac s (bytes4 cn ++ bytes4 (cn / 4294967296)) by rw [unhide hD5, ← macD_yes ⟨unhide k64, by rw [unhide l3]; decide⟩, unhide hD3, unhide HQ])
    have l5 := hide (show D5.length = 16 by rw [unhide E5]; exact mac_len _ _)
    obtain ⟨b5, c5, rfl, _, z5, z5', hs5⟩ := own_some ho5 (by rw [unhide l5]; decide)
    have q5 := hide (numberOf_any b5 D5.length c5 D5 w5 (by rw [unhide l5]; decide) z5 z5' hs5)
    have B5 := hide (bTr (unhide B4) hb5)
    clear ho5 hs5 hb5 S4 B4 hD5 hD3
    have EN := hide (show num D5 = codeN s cn by rw [unhide E5]; rfl)
    have hN := num_lt D5
    clear z5 z5' E5
    generalize num D5 = N at *
    go_wp2_with fail
    refine (unhide q5).mono ?_
    rintro e w6 ⟨rfl, rfl⟩
    have q6 := hide (itoa_any N w5 (by omega) (by omega) (Tab.keep (unhide HT) (unhide B5)))
    go_wp2_with fail
    refine (unhide q6).mono ?_
    rintro e w7 ⟨rfl, hb7⟩
    have B7 := hide (bTr (unhide B5) hb7)
    clear hb7 B5 q5
    have lI := Lib.itoa_length_le N (by omega) (by omega)
    obtain ⟨I, hI⟩ : ∃ I : ByteArray, ⟨(Lib.itoa N).toArray⟩ = I := ⟨_, rfl⟩
    have HI := hide (show I.data.toList = Lib.decDigits N by rw [← hI, ← Lib.itoa_nonneg])
    have zI : I.size ≤ 21 := by rw [← hI]; show (Lib.itoa N).toArray.size ≤ 21; simpa using lI
    rw [hI]
    clear hI lI q6
    have zP : (Z ++ I : ByteArray).size = dn + I.size := by rw [ByteArray.size_append, zZ]
    have HP := hide (show (Z ++ I : ByteArray).data.toList = List.replicate dn 48 ++ Lib.decDigits N by rw [ByteArray.data_append, Array.toList_append, unhide HZ, unhide HI])
    have z1 : ¬ 9223372036854775807 < Z.size + I.size := by omega
    have z2 : Z.size + I.size ≤ 9223372036854775807 := by omega
    obtain ⟨P, hP⟩ : ∃ P, (Z ++ I : ByteArray) = P := ⟨_, rfl⟩
    rw [hP] at zP HP
    go_upto_region 5 with fail
    have zi : (P.size : Int) - (dn : Int) = (I.size : Int) := by omega
    have y0 : (0 : Int) ≤ (I.size : Int) := by omega
    have y1 : (I.size : Int) ≤ (P.size : Int) := by omega
    have EX := hide (show P.extract (dn + I.size - dn) (dn + I.size) = ⟨(codeD s cn dn).toArray⟩ by
      rw [show dn + I.size - dn = I.size by omega, ← zP]
      apply ByteArray.ext
      apply Array.toList_inj.1
      rw [ByteArray.data_extract, Array.toList_extract]
      have hsz : P.size = (List.replicate dn (48 : UInt8) ++ Lib.decDigits N).length := by rw [← unhide HP]; simp
      rw [unhide EC, ← unhide EN, ← pad_last dn N dn (Nat.le_refl _)]
      rw [List.extract_eq_drop_take', List.take_of_length_le (by rw [unhide HP, ← hsz]; omega), unhide HP]
      congr 1
      rw [← hsz]; omega)
    go_wp2_with fail
    go_ret
    exact ⟨by rw [← unhide EX]; rfl, unhide B7⟩
  · rw [decide_eq_false hg] at q0
    have E := hide (codeD_no hg)
    clear hs
    go_enter Tryd.func7, Tryd.ntmps7
    go_wp2_with (go_at_call 16; refine (unhide q0).mono ?_; rintro e w' ⟨rfl, rfl⟩)
    go_ret
    exact ⟨by rw [unhide E]; rfl, Below.refl _ _⟩
set_option maxHeartbeats 1000000 in
theorem l16Code_any (a : Option Addr) (len cap : Nat) (s : List UInt8) (c d : Nat) (w : World) (hl : len ≤ 1048576) (hc : c ≤ 1000000000000) (hd : d ≤ 8) (hs : SlB w w.heap.size a len s) :
    Calls Tryd.prog 13 #[.slice a len cap, .int .i64 c, .int .i64 d] w fun e w' => e = .returned (.string ⟨(pad (codeN s c) d).toArray⟩) ∧ Below w.heap.size w w' := by
  obtain ⟨i0, hi, hz0, hz1, hz2⟩ := info_parts info_u8
  have cm : (c : Int) % 4294967296 = ((c % 4294967296 : Nat) : Int) := by omega
  have cq : (c : Int) / 4294967296 = ((c / 4294967296 : Nat) : Int) := by omega
  obtain ⟨mn, hmn⟩ : ∃ q, c % 4294967296 = q := ⟨_, rfl⟩
  obtain ⟨qn, hqn⟩ : ∃ q, c / 4294967296 = q := ⟨_, rfl⟩
  have hm0 : mn < 4294967296 := by omega
  have hq0 : qn < 4294967296 := by omega
  rw [hqn] at cq
  rw [hmn] at cm
  have HQ := hide hqn
  have HN := hide hmn
  have HS := hide hs
  clear hqn hmn hs
  go_enter Tryd.func13, Tryd.ntmps13
  go_wp2_with fail
  refine (l2Bytes_any mn w (by omega)).mono ?_
  rintro e w1 ⟨rfl, hr1, hb1⟩
  have R1 := hide hr1
  have B1 := hide hb1
  clear hr1 hb1
  go_wp2_with fail
  refine (l2Bytes_any qn w1 (by omega)).mono ?_
  rintro e w2 ⟨rfl, hr2, hb2⟩
  have O1 := hide (own_row (base := w.heap.size) ((unhide R1).keep hb2) (Nat.le_refl _) (show 4 ≤ maxLen by unfold maxLen; decide))
  have R2 := hide hr2
  have B2 := hide (bTr (unhide B1) hb2)
  have hz := (unhide B2).size
  obtain ⟨x2, hx2⟩ : ∃ b, b = w1.heap.size := ⟨_, rfl⟩
  rw [← hx2] at R2 ⊢
  clear hr2 hb2 R1 cq cm hx2
  go_wp2_with (at_builtin; (refine wpList_append_own _ rfl _ _ 22 rfl w.heap.size 5 i0 (.int .u8 0) 1 1 Tryd.underlying22 hi hz0 hz1 hz2 rfl (by decide) _ 4 ((bytes4 mn).map byteV) rfl (unhide O1) ⟨_, 0, none⟩ 4 4 ((bytes4 qn).map byteV) rfl rfl (sl_news (slB_row (unhide R2) (unhide R2).lt)) one_cell (by unfold maxLen; decide) (by decide) hz ?_); intro v3 w3 hown3 hgrow3 _)
  have B3 := hide ((unhide B2).grown hgrow3 hz (fun j hj => ((unhide O1).lt j hj).1))
  obtain ⟨D3, hD3⟩ : ∃ D, D = bytes4 mn ++ bytes4 qn := ⟨_, rfl⟩
  have O3 := hide (show w3.ownsRow w.heap.size 5 1 v3 D3.length (D3.map byteV) by rw [hD3, List.length_append, List.map_append]; exact hown3)
  have l3 := hide (show D3.length = 8 by rw [hD3]; rfl)
  have E3 := hide (show D3 = bytes4 c ++ bytes4 (c / 4294967296) by rw [hD3, unhide HQ, ← unhide HN, bytes4_mod])
  obtain ⟨b3, c3, rfl, _, _, _, hs3⟩ := own_some (unhide O3) (by rw [unhide l3]; decide)
  have S3 := hide hs3
  clear hown3 hgrow3 hs3 O3 O1 R2 B2 B1 hD3 hi hz0 hz1 hz2 hz
  refine (l2Mac_any a _ len cap D3.length c3 s D3 w3 hl (by rw [unhide l3]; decide) (((unhide HS).keepB (unhide B3)).mono (unhide B3).size) (unhide S3)).mono ?_
  rintro e w5 ⟨v5, D5, hD5, rfl, ho5, hb5⟩
  have E5 := hide (show D5 = mac s (bytes4 c ++ bytes4 (c / 4294967296)) by rw [unhide hD5, unhide E3])
  have l5 := hide (show D5.length = 16 by rw [unhide E5]; exact mac_len _ _)
  obtain ⟨b5, c5, rfl, _, z5, z5', hs5⟩ := own_some ho5 (by rw [unhide l5]; decide)
  have q5 := hide (l2Number_any b5 D5.length c5 D5 w5 (by rw [unhide l5]; decide) (by rw [unhide l5]; decide) hs5)
  have B5 := hide (bTr (unhide B3) hb5)
  clear ho5 hs5 hb5 S3 B3 hD5 z5 z5'
  have EN := hide (show num D5 = codeN s c by rw [unhide E5]; rfl)
  have hN := num_lt D5
  clear E5
  generalize num D5 = N at *
  go_wp2_with fail
  refine (unhide q5).mono ?_
  rintro e w6 ⟨rfl, rfl⟩
  clear q5
  go_wp2_with fail
  go_loopw [7, 8, 9] (fun n o i w' => ∃ (k : Nat), k ≤ d ∧ i = .int .i64 k ∧ n = .int .i64 (N / 10 ^ k : Nat) ∧ o = .string ⟨(pad N k).toArray⟩ ∧ Hid (Below w.heap.size w w')) (fun _ _ i _ => d - (intOf i).toNat)
  case atStart => exact ⟨0, Nat.zero_le _, rfl, by simp, rfl, B5⟩
  case round =>
    obtain ⟨k, hk, rfl, rfl, rfl, hb⟩ := hrel
    by_cases hlt : k < d
    · obtain ⟨ch, hc9⟩ : ∃ c, UInt8.ofNat (48 + N / 10 ^ k % 10) = c := ⟨_, rfl⟩
      have ap := hide (Go.Proofs.YtinbmibfflebcaaDoor.app_one ch (pad N k))
      have pe := hide (show pad N (k + 1) = ch :: pad N k by rw [← hc9]; rfl)
      have ne := hide (show N / 10 ^ k / 10 = N / 10 ^ (k + 1) by rw [Nat.div_div_eq_div_mul, Nat.pow_succ])
      have hlen := pad_len N k
      obtain ⟨OB, hOB⟩ : ∃ OB : ByteArray, OB = ⟨(pad N k).toArray⟩ := ⟨_, rfl⟩
      have hOz : OB.size = k := by rw [hOB]; show (pad N k).toArray.size = _; simp [hlen]
      obtain ⟨M, hM⟩ : ∃ M, N / 10 ^ k = M := ⟨_, rfl⟩
      have hM9 : M < 4294967296 := by rw [← hM]; exact Nat.lt_of_le_of_lt (Nat.div_le_self _ _) hN
      rw [hM] at hc9 ne ⊢
      rw [← hOB] at ap ⊢
      have hcn : ch.toNat = 48 + M % 10 := by rw [← hc9, UInt8.toNat_ofNat']; omega
      obtain ⟨R, hR⟩ : ∃ R, (M : Int) % 10 = R := ⟨_, rfl⟩
      have hR9 : R ≤ 9 := by omega
      have hR0 : 0 ≤ R := by omega
      have hcc : (48 : Int) + R = (ch.toNat : Int) := by omega
      obtain ⟨Q, hQ⟩ : ∃ Q, M / 10 = Q := ⟨_, rfl⟩
      have hq10 : (M : Int) / 10 = (Q : Int) := by omega
      rw [hQ] at ne
      clear hQ
      have cv : (convert 22 9 (.slice (some ⟨wr.heap.size, 0, none⟩) 1 1)).run Tryd.prog (wr.alloc (.cells #[.int .u8 (ch.toNat : Int)] 5)) = .ok (.string ⟨#[ch]⟩) (wr.alloc (.cells #[.int .u8 (ch.toNat : Int)] 5)) := Go.Proofs.YtinbmibfflebcaaDoor.conv_own (Go.Proofs.YtinbmibfflebcaaDoor.own_new wr ch)
      have q1 : ¬ 9223372036854775806 < OB.size := by omega
      have q2 : OB.size ≤ 9223372036854775806 := by omega
      have q3 : ¬ 9223372036854775807 < 1 + OB.size := by omega
      have q4 : 1 + OB.size ≤ 9223372036854775807 := by omega
      have B9 := hide (bAl (unhide hb) (.cells #[.int .u8 (ch.toNat : Int)] 5))
      have i1 : (k : Int) < (d : Int) := by omega
      have e4 : IntKind.i64.wrap (Q : Int) = (Q : Int) := by rw [IntKind.wrap_i64]; omega
      clear hOB hc9 hcn hM hlen hOz hN hM9 hc hm0 hq0
      go_upto_region 7 with fail
      go_wp2_with fail
      refine ⟨⟨k + 1, by omega, by go_num, ?_, ?_, B9⟩, by simp [intOf]; omega⟩
      · rw [← unhide ne]
      · rw [unhide ap, unhide pe]
    · obtain rfl : k = d := by omega
      go_wp2_with fail
      go_ret
      exact ⟨by rw [← unhide EN]; rfl, unhide hb⟩
theorem l16Secret_any (a : Option Addr) (len cap : Nat) (d : Int) (w : World) :
    Calls Tryd.prog 19 #[.slice a len cap, .int .i64 d] w fun e w' => e = .returned (.bool (decide (((1 : Int) ≤ len ∧ (len : Int) ≤ 64) ∧ 4 ≤ d ∧ d ≤ 8))) ∧ w = w' := by
  go_enter Tryd.func19, Tryd.ntmps19
  go_wp2
  all_goals go_ret
  all_goals refine ⟨congrArg (fun b => Ending.returned (.bool b)) ?_, rfl⟩
  all_goals (rw [Bool.eq_iff_iff]; simp; try omega)
set_option maxHeartbeats 1000000 in
theorem sCodeOf_any (a : Option Addr) (len cap : Nat) (s : List UInt8) (c d : Int) (w : World) (hl : len ≤ 1048576) (hs : SlB w w.heap.size a len s) :
    Calls Tryd.prog 20 #[.slice a len cap, .int .i64 c, .int .i64 d] w fun e w' => e = .returned (.string ⟨(codeD s c d).toArray⟩) ∧ Below w.heap.size w w' := by
  have el := hs.1
  by_cases hg : CodeOk s c d
  · have G := hg
    obtain ⟨⟨g1, g2⟩, ⟨g3, g4⟩, g5, g6⟩ := hg
    obtain ⟨cn, rfl⟩ := Int.eq_ofNat_of_zero_le g3
    obtain ⟨dn, rfl⟩ := Int.eq_ofNat_of_zero_le (show 0 ≤ d by omega)
    have EC := hide (codeD_yes G)
    have q := hide (l16Code_any a len cap s cn dn w hl (by omega) (by omega) hs)
    have q0 := hide (l16Secret_any a len cap dn w)
    rw [decide_eq_true (show ((1 : Int) ≤ len ∧ (len : Int) ≤ 64) ∧ 4 ≤ (dn : Int) ∧ (dn : Int) ≤ 8 by omega)] at q0
    clear G hs el
    go_enter Tryd.func20, Tryd.ntmps20
    go_wp2_with (first | (go_at_call 19; refine (unhide q0).mono ?_; rintro e w' ⟨rfl, rfl⟩) | (go_at_call 13; refine (unhide q).mono ?_; rintro e w' ⟨rfl, hb⟩))
    go_ret
    exact ⟨by rw [unhide EC]; rfl, hb⟩
  · have E := hide (codeD_no hg)
    have q0 := hide (l16Secret_any a len cap d w)
    by_cases h1 : ((1 : Int) ≤ len ∧ (len : Int) ≤ 64) ∧ 4 ≤ d ∧ d ≤ 8
    · rw [decide_eq_true h1] at q0
      have hn : c < 0 ∨ 1000000000000 < c := by unfold CodeOk at hg; omega
      clear hg hs el h1
      go_enter Tryd.func20, Tryd.ntmps20
      go_wp2_with (go_at_call 19; refine (unhide q0).mono ?_; rintro e w' ⟨rfl, rfl⟩)
      all_goals go_ret
      all_goals exact ⟨by rw [unhide E]; rfl, Below.refl _ _⟩
    · rw [decide_eq_false h1] at q0
      clear hg hs el h1
      go_enter Tryd.func20, Tryd.ntmps20
      go_wp2_with (go_at_call 19; refine (unhide q0).mono ?_; rintro e w' ⟨rfl, rfl⟩)
      go_ret
      exact ⟨by rw [unhide E]; rfl, Below.refl _ _⟩
end Go.Proofs.YtinbmibfflebcaaDoor.D
