/- impl.boundTo, spec.l2E; Sign on both sides. -/
import Derived.Test.YtlgloffdinnpfaaDoorDSgn
namespace Go.Proofs.YtlgloffdinnpfaaDoor.D
set_option maxRecDepth 20000
open Go.RowKit

set_option maxHeartbeats 1000000 in
theorem boundTo_any (r : Nat) (ad : Option Addr) (ld cd : Nat) (d : List UInt8) (w : World) (h2 : ld ≤ 20000) (hd : SlB w w.heap.size ad ld d) (hM : Mults w) :
    Calls Tryd.prog 35 #[.int .i64 r, .slice ad ld cd] w fun e w' => e = .returned (.int .i64 (eN r d)) ∧ Below w.heap.size w w' := by
  have HD := hide hd
  have ed := hide hd.1
  have HM := hide hM
  have h00 := hM.1
  clear hd hM
  have m2 := hide (show ld ≤ maxLen by unfold maxLen; omega)
  go_enter Tryd.func35, Tryd.ntmps35
  go_wp2_with fail
  refine (asBytes_any r _).mono ?_
  rintro e w1 ⟨rfl, hr1, hb1⟩
  obtain ⟨Rs, hRs⟩ : ∃ Rs, bytes4 r = Rs := ⟨_, rfl⟩
  have l1 := hide (show Rs.length = 4 by rw [← hRs]; rfl)
  rw [hRs] at hr1
  have HRs := hide hRs
  have S1 := hide (slB_row hr1 hr1.lt)
  rw [unhide l1] at S1
  have B1 := hide hb1
  clear hr1 hb1 hRs
  go_wp2_with fail
  refine (iDigest_any ad ld cd d _ (unhide m2) (((unhide HD).keep (unhide B1)).mono (unhide B1).size) ((unhide HM).keepB (unhide B1) h00)).mono ?_
  rintro e w2 ⟨v2, D2, hD2, rfl, ho2, hb2⟩
  have E2 := hide ((unhide hD2).trans (digD_yes (by rw [← unhide ed]; exact h2)).symm)
  have l2 := hide (show D2.length = 16 by rw [unhide E2]; exact dig_len d)
  obtain ⟨b2, c2, rfl, _, _, _, hs2⟩ := own_some ho2 (by rw [unhide l2]; decide)
  have S2 := hide hs2
  have S1' := hide (((unhide S1).keep hb2).mono hb2.size)
  have B2 := hide (bTr (unhide B1) hb2)
  clear ho2 hs2 hb2 S1 B1 hD2
  have RG := hide (RowIs.new w2 #[.slice (some ⟨w.heap.size, 0, none⟩) 4 4, .slice (some ⟨b2, 0, none⟩) D2.length c2] 22)
  have BA := hide (bAl (Below.refl w2.heap.size w2) (.cells #[.slice (some ⟨w.heap.size, 0, none⟩) 4 4, .slice (some ⟨b2, 0, none⟩) D2.length c2] 22))
  have BB := hide (bTr (unhide B2) (unhide BA))
  go_wp2_with fail
  refine (concat_any w2.heap.size w.heap.size 0 4 4 b2 0 D2.length c2 Rs D2 _ (by decide) (by decide) (by rw [unhide l2]; decide) (unhide RG) (((unhide S1').keep (unhide BA)).mono (unhide BA).size) (((unhide S2).keep (unhide BA)).mono (unhide BA).size)).mono ?_
  rintro e w3 ⟨v3, D3, hD3, rfl, ho3, hb3⟩
  have l3 := hide (show D3.length = 20 by rw [unhide hD3, List.length_append, unhide l1, unhide l2])
  obtain ⟨b3, c3, rfl, _, _, _, hs3⟩ := own_some ho3 (by rw [unhide l3]; decide)
  have S3 := hide hs3
  have B3 := hide (bTr (unhide BB) hb3)
  clear ho3 hs3 hb3 BB BA RG S1' S2
  go_wp2_with fail
  refine (iDigest_any _ D3.length c3 D3 _ (by rw [unhide l3]; unfold maxLen; omega) (unhide S3) ((unhide HM).keepB (unhide B3) h00)).mono ?_
  rintro e w4 ⟨v4, D4, hD4, rfl, ho4, hb4⟩
  have E4 := hide ((unhide hD4).trans (digD_yes (by rw [unhide l3]; decide)).symm)
  have l4 := hide (show D4.length = 16 by rw [unhide E4]; exact dig_len D3)
  obtain ⟨b4, c4, rfl, _, hc4, hcm4, hs4⟩ := own_some ho4 (by rw [unhide l4]; decide)
  have S4 := hide hs4
  have C4 := hide (And.intro hc4 hcm4)
  have B4 := hide (bTr (unhide B3) hb4)
  clear ho4 hs4 hb4 B3 S3 hc4 hcm4 hD4
  go_wp2_with fail
  refine (numberOf_any b4 D4.length c4 D4 _ (by rw [unhide l4]; decide) (unhide C4).1 (unhide C4).2 (unhide S4)).mono ?_
  rintro e w5 ⟨rfl, rfl⟩
  have hn := num_lt D4
  have EE := hide (show num D4 % 1073741789 = eN r d by unfold eN; rw [unhide E4, unhide hD3, ← unhide HRs, unhide E2])
  generalize num D4 = N at hn EE
  go_wp2_with fail
  go_ret
  exact ⟨by rw [← unhide EE]; simp, unhide B4⟩

set_option maxHeartbeats 1000000 in
theorem l2E_any (r : Nat) (ad : Option Addr) (ld cd : Nat) (d : List UInt8) (w : World) (hr : r < 4611686018427387904) (h2 : ld ≤ 1048576) (hd : SlB w w.heap.size ad ld d) :
    Calls Tryd.prog 41 #[.int .i64 r, .slice ad ld cd] w fun e w' => e = .returned (.int .i64 (eN r d)) ∧ Below w.heap.size w w' := by
  obtain ⟨i0, hi, hz0, hz1, hz2⟩ := info_parts info_u8
  have HD := hide hd
  clear hd
  go_enter Tryd.func41, Tryd.ntmps41
  go_wp2_with fail
  refine (l2Bytes_any r _ hr).mono ?_
  rintro e w1 ⟨rfl, hr1, hb1⟩
  obtain ⟨Rs, hRs⟩ : ∃ Rs, bytes4 r = Rs := ⟨_, rfl⟩
  have l1 := hide (show Rs.length = 4 by rw [← hRs]; rfl)
  rw [hRs] at hr1
  have HRs := hide hRs
  have R1 := hide hr1
  have B1 := hide hb1
  have z1 := hr1.lt
  clear hr1 hb1 hRs
  go_wp2_with (at_builtin; refine wpList_append_own _ rfl _ _ 22 rfl w.heap.size 5 i0 (.int .u8 0) 1 1 Tryd.underlying22 hi hz0 hz1 hz2 rfl (by decide) (.slice none 0 0) 0 [] rfl (World.ownsRow_nil _ _ _ _) ⟨w.heap.size, 0, none⟩ 4 4 (Rs.map byteV) rfl (by rw [List.length_map, unhide l1]) (row_news (unhide R1)) one_cell (by unfold maxLen; omega) (by omega) (by omega) ?_; intro v2 w2 hown2 hgrow2 _; have B2 := hide ((unhide B1).grown hgrow2 (by omega) (fun j hj => by cases hj)); have O2 := hide (show w2.ownsRow w.heap.size 5 1 v2 Rs.length (Rs.map byteV) by (rw [unhide l1]; rw [Nat.zero_add, List.nil_append] at hown2; exact hown2)); clear hown2 hgrow2)
  have z2 := (unhide B2).size
  refine (l2Digest_any ad ld cd d _ h2 (((unhide HD).keep (unhide B2)).mono z2)).mono ?_
  rintro e w3 ⟨v3, D3, hD3, rfl, ho3, hb3⟩
  have l3 := hide (show D3.length = 16 by rw [unhide hD3]; exact dig_len d)
  obtain ⟨b3, c3, rfl, _, _, _, hs3⟩ := own_some ho3 (by rw [unhide l3]; decide)
  have O3 := hide (own_keep (unhide O2) hb3)
  have N3 := hide (sl_news hs3)
  have B3 := hide (bTr (unhide B2) hb3)
  have z3 := (unhide B3).size
  clear ho3 hs3 hb3 O2 B2
  go_wp2_with (at_builtin; refine wpList_append_own _ rfl _ _ 22 rfl w.heap.size 5 i0 (.int .u8 0) 1 1 Tryd.underlying22 hi hz0 hz1 hz2 rfl (by decide) _ _ _ rfl (unhide O3) ⟨b3, 0, none⟩ D3.length c3 (D3.map byteV) rfl (by simp) (unhide N3) one_cell (by rw [unhide l1, unhide l3]; unfold maxLen; omega) (by rw [unhide l1, unhide l3]; omega) z3 ?_; intro v4 w4 hown4 hgrow4 _; have B4 := hide ((unhide B3).grown hgrow4 z3 (fun j hj => ((unhide O3).lt j hj).1)); have O4 := hide (show w4.ownsRow w.heap.size 5 1 v4 (Rs ++ D3).length ((Rs ++ D3).map byteV) by (rw [List.length_append, List.map_append]; exact hown4)); clear hown4 hgrow4)
  obtain ⟨N, hN⟩ : ∃ N, Rs ++ D3 = N := ⟨_, rfl⟩
  rw [hN] at O4
  have l4 := hide (show N.length = 20 by rw [← hN, List.length_append, unhide l1, unhide l3])
  have HN := hide hN
  clear hN
  obtain ⟨b4, c4, rfl, _, _, _, hs4⟩ := own_some (unhide O4) (by rw [unhide l4]; decide)
  have S4 := hide hs4
  clear hs4 O3 O4
  refine (l2Digest_any _ N.length c4 N _ (by rw [unhide l4]; decide) (unhide S4)).mono ?_
  rintro e w5 ⟨v5, D5, hD5, rfl, ho5, hb5⟩
  have l5 := hide (show D5.length = 16 by rw [unhide hD5]; exact dig_len N)
  obtain ⟨b5, c5, rfl, _, _, _, hs5⟩ := own_some ho5 (by rw [unhide l5]; decide)
  have S5 := hide hs5
  have B5 := hide (bTr (unhide B4) hb5)
  clear ho5 hs5 hb5 B4
  go_wp2_with fail
  refine (l2Number_any b5 D5.length c5 D5 _ (by rw [unhide l5]; decide) (by rw [unhide l5]; decide) (unhide S5)).mono ?_
  rintro e w6 ⟨rfl, rfl⟩
  have hn := num_lt D5
  have EE := hide (show num D5 % 1073741789 = eN r d by unfold eN; rw [unhide hD5, ← unhide HN, ← unhide HRs, unhide hD3])
  generalize num D5 = M at hn EE
  go_wp2_with fail
  go_ret
  exact ⟨by rw [← unhide EE]; simp, unhide B5⟩
end Go.Proofs.YtlgloffdinnpfaaDoor.D
