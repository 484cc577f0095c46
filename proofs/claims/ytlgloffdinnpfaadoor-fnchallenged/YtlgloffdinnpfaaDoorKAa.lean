/- AnswerChallenge on both sides. -/
import Derived.Test.YtlgloffdinnpfaaDoorKAc
namespace Go.Proofs.YtlgloffdinnpfaaDoor.D
set_option maxRecDepth 20000
open Go.RowKit

theorem between_any (a b c : Int) (w : World) : Calls Tryd.prog 30 #[.int .i64 a, .int .i64 b, .int .i64 c] w fun e w' => e = .returned (.bool (decide (a ≤ b ∧ b ≤ c))) ∧ w = w' := by
  go_enter Tryd.func30, Tryd.ntmps30
  go_wp2
  all_goals go_ret
  all_goals refine ⟨congrArg (fun b => Ending.returned (.bool b)) ?_, rfl⟩
  all_goals (rw [Bool.eq_iff_iff]; simp; try omega)
/-- An origin, a challenge and a counter as they must be. -/
def AskOk (o : Nat) (len : Nat) (n : Int) : Prop := (1 ≤ o ∧ o ≤ 100) ∧ len ≤ 100 ∧ 0 ≤ n ∧ n ≤ 1000000000
instance (o len : Nat) (n : Int) : Decidable (AskOk o len n) := by unfold AskOk; exact inferInstance
set_option maxHeartbeats 1000000 in
theorem goodAnswering_any (o : ByteArray) (a : Option Addr) (len cap : Nat) (n : Int) (w : World) :
    Calls Tryd.prog 16 #[.string o, .slice a len cap, .int .i64 n] w fun e w' => e = .returned (.bool (decide (AskOk o.size len n))) ∧ w = w' := by
  have hd : decide (AskOk o.size len n) = (decide ((1 : Int) ≤ o.size ∧ (o.size : Int) ≤ 100) && (decide (len ≤ 100) && decide (0 ≤ n ∧ n ≤ 1000000000))) := by
    rw [Bool.eq_iff_iff, Bool.and_eq_true, Bool.and_eq_true, decide_eq_true_eq, decide_eq_true_eq, decide_eq_true_eq, decide_eq_true_eq]; unfold AskOk; omega
  rw [hd]; clear hd
  have q0 := hide (fun w => between_any 1 o.size 100 w)
  have q2 := hide (fun w => between_any 0 n 1000000000 w)
  generalize decide ((1 : Int) ≤ o.size ∧ (o.size : Int) ≤ 100) = d0 at *
  generalize decide (0 ≤ n ∧ n ≤ 1000000000) = d2 at *
  by_cases hl : len ≤ 100
  · rw [decide_eq_true hl]
    cases d0 <;> cases d2
    all_goals
      go_enter Tryd.func16, Tryd.ntmps16
      go_wp2_with (go_at_call 30; (first | with_reducible refine (unhide q0 _).mono ?_ | with_reducible refine (unhide q2 _).mono ?_); rintro e w' ⟨rfl, rfl⟩)
      go_ret
      exact ⟨by first | rfl | simp, rfl⟩
  · rw [decide_eq_false hl]
    cases d0
    all_goals
      go_enter Tryd.func16, Tryd.ntmps16
      go_wp2_with (go_at_call 30; (first | with_reducible refine (unhide q0 _).mono ?_ | with_reducible refine (unhide q2 _).mono ?_); rintro e w' ⟨rfl, rfl⟩)
      go_ret
      exact ⟨by first | rfl | simp, rfl⟩
set_option maxHeartbeats 1000000 in
theorem l16Asked_any (o : ByteArray) (a : Option Addr) (len cap : Nat) (n : Int) (w : World) :
    Calls Tryd.prog 20 #[.string o, .slice a len cap, .int .i64 n] w fun e w' => e = .returned (.bool (decide (AskOk o.size len n))) ∧ w = w' := by
  go_enter Tryd.func20, Tryd.ntmps20
  go_wp2
  all_goals go_ret
  all_goals refine ⟨congrArg (fun b => Ending.returned (.bool b)) ?_, rfl⟩
  all_goals (first | (rw [Bool.eq_iff_iff, decide_eq_true_eq, decide_eq_true_eq]; unfold AskOk; omega) | (refine (decide_eq_false ?_).symm; unfold AskOk; omega) | (refine (decide_eq_true ?_).symm; unfold AskOk; omega))
/-- What an answer signs. -/
def ansD (o c : List UInt8) (n : Nat) : List UInt8 := dig o ++ dig c ++ bytes4 n
theorem ansD_len (o c : List UInt8) (n : Nat) : (ansD o c n).length = 36 := by unfold ansD; rw [List.length_append, List.length_append, dig_len, dig_len]; rfl
set_option maxHeartbeats 2000000 in
theorem answerData_any (o : ByteArray) (a : Option Addr) (len cap : Nat) (c : List UInt8) (n : Nat) (w : World) (ho : o.size ≤ 20000) (hl : len ≤ 20000) (hs : SlB w w.heap.size a len c) (hM : Mults w) :
    Calls Tryd.prog 18 #[.string o, .slice a len cap, .int .i64 n] w fun e w' => ∃ v D, Hid (D = ansD o.data.toList c n) ∧ e = .returned v ∧ w'.ownsRow w.heap.size 5 1 v D.length (D.map byteV) ∧ Below w.heap.size w w' := by
  obtain ⟨cp, w1, hc, hb1, hs1⟩ := conv_bytes o w
  have HP := hide hs1
  have HS := hide ((hs.keep hb1).mono hb1.size)
  have B1 := hide hb1
  have HM := hide (hM.keepB hb1 hM.1)
  have k1 := hide (show o.data.toList.length ≤ 20000 by simpa using ho)
  have k2 := hide (show c.length ≤ 20000 by rw [← hs.1]; exact hl)
  have h00 := hM.1
  clear hs hs1 hb1 hM
  have m1 := hide (show o.size ≤ maxLen by unfold maxLen; omega)
  have m2 := hide (show len ≤ maxLen by unfold maxLen; omega)
  go_enter Tryd.func18, Tryd.ntmps18
  go_wp2_with fail
  refine (iDigest_any _ o.size cp o.data.toList w1 (unhide m1) (unhide HP) (unhide HM)).mono ?_
  rintro e w2 ⟨v2, D2, hD2, rfl, ho2, hb2⟩
  have E2 := hide ((unhide hD2).trans (digD_yes (unhide k1)).symm)
  have l2 := hide (show D2.length = 16 by rw [unhide E2]; exact dig_len _)
  obtain ⟨b2, c2, rfl, _, _, _, hs2⟩ := own_some ho2 (by rw [unhide l2]; decide)
  have S2 := hide hs2
  have B2 := hide (bTr (unhide B1) hb2)
  replace HS := hide (((unhide HS).keep hb2).mono hb2.size)
  replace HM := hide ((unhide HM).keepB hb2 (unhide HM).1)
  clear ho2 hs2 hb2 hD2 hc HP B1
  go_wp2_with fail
  refine (iDigest_any a len cap c w2 (unhide m2) (unhide HS) (unhide HM)).mono ?_
  rintro e w3 ⟨v3, D3, hD3, rfl, ho3, hb3⟩
  have E3 := hide ((unhide hD3).trans (digD_yes (unhide k2)).symm)
  have l3 := hide (show D3.length = 16 by rw [unhide E3]; exact dig_len _)
  obtain ⟨b3, c3, rfl, _, _, _, hs3⟩ := own_some ho3 (by rw [unhide l3]; decide)
  have S3 := hide hs3
  replace S2 := hide (((unhide S2).keep hb3).mono hb3.size)
  have B3 := hide (bTr (unhide B2) hb3)
  clear ho3 hs3 hb3 hD3 B2 HS HM
  go_wp2_with fail
  refine (asBytes_any n w3).mono ?_
  rintro e w4 ⟨rfl, hr4, hb4⟩
  have S4 := hide (slB_row hr4 hr4.lt)
  replace S2 := hide (((unhide S2).keep hb4).mono hb4.size)
  replace S3 := hide (((unhide S3).keep hb4).mono hb4.size)
  have B4 := hide (bTr (unhide B3) hb4)
  obtain ⟨x4, hx4⟩ : ∃ b, b = w3.heap.size := ⟨_, rfl⟩
  rw [← hx4] at S4 ⊢
  clear hr4 hb4 B3 hx4
  have BA := hide (bAl (Below.refl w4.heap.size w4) (.cells #[.slice (some ⟨b2, 0, none⟩) D2.length c2, .slice (some ⟨b3, 0, none⟩) D3.length c3, .slice (some ⟨x4, 0, none⟩) 4 4] 22))
  have RG := hide (RowIs.new w4 #[.slice (some ⟨b2, 0, none⟩) D2.length c2, .slice (some ⟨b3, 0, none⟩) D3.length c3, .slice (some ⟨x4, 0, none⟩) 4 4] 22)
  have BB := hide (bTr (unhide B4) (unhide BA))
  go_wp2_with fail
  refine (concat3_any w4.heap.size b2 0 D2.length c2 b3 0 D3.length c3 x4 0 4 4 D2 D3 (bytes4 n) _ (by rw [unhide l2]; decide) (by rw [unhide l2]; decide) (by rw [unhide l3]; decide) (by decide) (unhide RG) (((unhide S2).keep (unhide BA)).mono (unhide BA).size) (((unhide S3).keep (unhide BA)).mono (unhide BA).size) (((unhide S4).keep (unhide BA)).mono (unhide BA).size)).mono ?_
  rintro e w5 ⟨v5, D5, hD5, rfl, ho5, hb5⟩
  go_wp2_with fail
  go_ret
  exact ⟨_, D5, hide (by rw [unhide hD5, unhide E2, unhide E3]; rfl), rfl, own_mono ho5 (unhide BB).size, bTr (unhide BB) hb5⟩
set_option maxHeartbeats 2000000 in
theorem l16Bytes_any (o : ByteArray) (a : Option Addr) (len cap : Nat) (c : List UInt8) (n : Nat) (w : World) (ho : o.size ≤ 1048576) (hl : len ≤ 1048576) (hn : n < 4611686018427387904) (hs : SlB w w.heap.size a len c) :
    Calls Tryd.prog 22 #[.string o, .slice a len cap, .int .i64 n] w fun e w' => ∃ v D, Hid (D = ansD o.data.toList c n) ∧ e = .returned v ∧ w'.ownsRow w.heap.size 5 1 v D.length (D.map byteV) ∧ Below w.heap.size w w' := by
  obtain ⟨cp, w1, hc, hb1, hs1⟩ := conv_bytes o w
  have HP := hide hs1
  have HS := hide ((hs.keep hb1).mono hb1.size)
  have B1 := hide hb1
  clear hs hs1 hb1
  obtain ⟨i0, hi, hz0, hz1, hz2⟩ := info_parts info_u8
  go_enter Tryd.func22, Tryd.ntmps22
  go_wp2_with fail
  refine (l2Digest_any _ o.size cp o.data.toList w1 ho (unhide HP)).mono ?_
  rintro e w2 ⟨v2, D2, hD2, rfl, ho2, hb2⟩
  have l2 := hide (show D2.length = 16 by rw [unhide hD2]; exact dig_len _)
  have O2 := hide (own_mono ho2 (unhide B1).size)
  have B2 := hide (bTr (unhide B1) hb2)
  replace HS := hide (((unhide HS).keep hb2).mono hb2.size)
  clear ho2 hb2 hc HP B1
  go_wp2_with fail
  refine (l2Digest_any a len cap c w2 hl (unhide HS)).mono ?_
  rintro e w3 ⟨v3, D3, hD3, rfl, ho3, hb3⟩
  have l3 := hide (show D3.length = 16 by rw [unhide hD3]; exact dig_len _)
  obtain ⟨b3, c3, rfl, _, _, _, hs3⟩ := own_some ho3 (by rw [unhide l3]; decide)
  have L3 := hide (sl_news hs3)
  replace O2 := hide (own_keep (unhide O2) hb3)
  have B3 := hide (bTr (unhide B2) hb3)
  have hz := (unhide B3).size
  clear ho3 hs3 hb3 HS B2
  go_wp2_with (at_builtin; refine wpList_append_own _ rfl _ _ 22 rfl w.heap.size 5 i0 (.int .u8 0) 1 1 Tryd.underlying22 hi hz0 hz1 hz2 rfl (by decide) _ _ _ rfl (unhide O2) ⟨_, 0, none⟩ _ _ (D3.map byteV) rfl (by simp) (unhide L3) one_cell (by rw [unhide l2, unhide l3]; unfold maxLen; decide) (by rw [unhide l2, unhide l3]; decide) hz ?_; intro v4 w4 hown4 hgrow4 _)
  have B4 := hide ((unhide B3).grown hgrow4 hz (fun j hj => ((unhide O2).lt j hj).1))
  obtain ⟨D4, hD4⟩ : ∃ D, D = D2 ++ D3 := ⟨_, rfl⟩
  have O4 := hide (show w4.ownsRow w.heap.size 5 1 v4 D4.length (D4.map byteV) by rw [hD4, List.length_append, List.map_append]; exact hown4)
  have l4 := hide (show D4.length = 32 by rw [hD4, List.length_append, unhide l2, unhide l3])
  have E4 := hide hD4
  clear hown4 hgrow4 hD4 O2 L3 B3 hz
  refine (l2Bytes_any n w4 hn).mono ?_
  rintro e w5 ⟨rfl, hr5, hb5⟩
  have L5 := hide (sl_news (slB_row hr5 hr5.lt))
  have O5 := hide (own_keep (unhide O4) hb5)
  have B5 := hide (bTr (unhide B4) hb5)
  have hz5 := (unhide B5).size
  obtain ⟨x5, hx5⟩ : ∃ b, b = w4.heap.size := ⟨_, rfl⟩
  rw [← hx5] at L5 ⊢
  clear hr5 hb5 O4 B4 hx5
  go_wp2_with (at_builtin; refine wpList_append_own _ rfl _ _ 22 rfl w.heap.size 5 i0 (.int .u8 0) 1 1 Tryd.underlying22 hi hz0 hz1 hz2 rfl (by decide) _ _ _ rfl (unhide O5) ⟨_, 0, none⟩ 4 4 ((bytes4 n).map byteV) rfl rfl (unhide L5) one_cell (by rw [unhide l4]; unfold maxLen; decide) (by rw [unhide l4]; decide) hz5 ?_; intro v6 w6 hown6 hgrow6 _)
  go_ret
  refine ⟨_, D4 ++ bytes4 n, hide (by rw [unhide E4, unhide hD2, unhide hD3]; rfl), rfl, ?_, (unhide B5).grown hgrow6 hz5 (fun j hj => ((unhide O5).lt j hj).1)⟩
  rw [List.length_append, List.map_append]; exact hown6
/-- The answer's numbers. -/
def ansOk (s : Int) (o len : Nat) (n : Int) : Prop := secB s = true ∧ AskOk o len n
instance (s : Int) (o len : Nat) (n : Int) : Decidable (ansOk s o len n) := by unfold ansOk; exact inferInstance
structure SgN (s : Nat) (d : List UInt8) (r z : Nat) : Prop where
  r : r = rN s d
  z : z = zN s d
theorem SgN.one {s : Nat} {d : List UInt8} {r z r' z' : Nat} (h : SgN s d r z) (k : SgN s d r' z') : r = r' ∧ z = z' := ⟨h.r.trans k.r.symm, h.z.trans k.z.symm⟩
structure AnsIs (s : Int) (o : ByteArray) (c : List UInt8) (n : Int) (o' : ByteArray) (n' : Int) (r z : Nat) : Prop where
  yes : ansOk s o.size c.length n → o' = o ∧ n' = n ∧ SgN s.toNat (ansD o.data.toList c n.toNat) r z
  no : ¬ ansOk s o.size c.length n → o' = ⟨#[]⟩ ∧ n' = 0 ∧ r = 0 ∧ z = 0
theorem AnsIs.one {s : Int} {o : ByteArray} {c : List UInt8} {n : Int} {o1 o2 : ByteArray} {n1 n2 : Int} {r1 z1 r2 z2 : Nat} (h : AnsIs s o c n o1 n1 r1 z1) (k : AnsIs s o c n o2 n2 r2 z2) : o1 = o2 ∧ n1 = n2 ∧ r1 = r2 ∧ z1 = z2 := by
  by_cases q : ansOk s o.size c.length n
  · have a := h.yes q
    have b := k.yes q
    have e := a.2.2.one b.2.2
    exact ⟨a.1.trans b.1.symm, a.2.1.trans b.2.1.symm, e.1, e.2⟩
  · have a := h.no q
    have b := k.no q
    exact ⟨a.1.trans b.1.symm, a.2.1.trans b.2.1.symm, a.2.2.1.trans b.2.2.1.symm, a.2.2.2.trans b.2.2.2.symm⟩
theorem AnsIs.none {s : Int} {o : ByteArray} {c : List UInt8} {n : Int} (h : ¬ ansOk s o.size c.length n) : AnsIs s o c n ⟨#[]⟩ 0 0 0 := { yes := fun q => absurd q h, no := fun _ => ⟨rfl, rfl, rfl, rfl⟩ }
def RetAns (s : Int) (o : ByteArray) (c : List UInt8) (n : Int) (e : Ending) : Prop := ∃ (o' : ByteArray) (n' : Int) (r z : Nat), AnsIs s o c n o' n' r z ∧ e = .returned (.agg #[.string o', .int .i64 n', .int .i64 (r : Int), .int .i64 (z : Int)])
set_option maxHeartbeats 2000000 in
theorem sAnswerChallenge_any (s : Int) (o : ByteArray) (a : Option Addr) (len cap : Nat) (c : List UInt8) (n : Int) (w : World) (hs : SlB w w.heap.size a len c) :
    Calls Tryd.prog 6 #[.int .i64 s, .string o, .slice a len cap, .int .i64 n] w fun e w' => RetAns s o c n e ∧ Below w.heap.size w w' := by
  have q0 := hide (sSecret_any s)
  have q1 := hide (l16Asked_any o a len cap n)
  have el := hide hs.1
  by_cases h1 : secB s = true
  · have hsec := hide h1
    rw [h1] at q0
    by_cases h2 : AskOk o.size len n
    · rw [decide_eq_true h2] at q1
      have OK := hide (show ansOk s o.size c.length n from ⟨h1, by rw [← unhide el]; exact h2⟩)
      obtain ⟨sn, rfl, s1, s2⟩ := secB_nat h1
      obtain ⟨⟨o1, o2⟩, l1, n1, n2⟩ := h2
      obtain ⟨nn, rfl⟩ := Int.eq_ofNat_of_zero_le n1
      obtain ⟨W, hW⟩ : ∃ W, W = w.alloc (.cells #[.string ⟨#[]⟩, .int .i64 0, .int .i64 0, .int .i64 0] 28) := ⟨_, rfl⟩
      have B0 : Below w.heap.size w W := by rw [hW]; exact bAl (Below.refl _ _) _
      have R0 := hide (show RowIs W w.heap.size #[.string ⟨#[]⟩, .int .i64 0, .int .i64 0, .int .i64 0] 28 by rw [hW]; exact RowIs.new _ _ _)
      have qd := hide (l16Bytes_any o a len cap c nn W (by omega) (by omega) (by omega) ((hs.keep B0).mono B0.size))
      have HB := hide B0
      have HW := hide hW.symm
      clear hs hW B0 h1
      go_enter Tryd.func6, Tryd.ntmps6
      go_wp2_with (first | (go_at_call 19; refine (unhide q0 _).mono ?_; rintro e w' ⟨rfl, rfl⟩) | (go_at_call 20; refine (unhide q1 _).mono ?_; rintro e w' ⟨rfl, rfl⟩))
      rw [unhide HW]
      refine (unhide qd).mono ?_
      rintro e w2 ⟨v, D, hD, rfl, ho, hb⟩
      have lD := hide (show D.length = 36 by rw [unhide hD]; exact ansD_len _ _ _)
      obtain ⟨b2, c2, rfl, _, _, _, hs2⟩ := own_some ho (by rw [unhide lD]; decide)
      have R2 := (unhide R0).keep hb
      have B2 := hide (bTr (unhide HB) hb)
      have qs := hide (l2Sign_any sn _ D.length c2 D w2 (by omega) (by rw [unhide lD]; decide) hs2)
      obtain ⟨r, hr⟩ : ∃ r, r = rN sn D := ⟨_, rfl⟩
      obtain ⟨z, hz⟩ : ∃ z, z = zN sn D := ⟨_, rfl⟩
      rw [← hr, ← hz] at qs
      have A1 := hide (show AnsIs sn o c nn o nn r z from { yes := fun _ => ⟨rfl, rfl, ⟨by rw [hr, unhide hD]; rfl, by rw [hz, unhide hD]; rfl⟩⟩, no := fun q => absurd (unhide OK) q })
      replace R2 := hide R2
      clear ho hs2 hb hD hr hz HW R0 HB
      go_wp2_with fail
      refine (unhide qs).mono ?_
      rintro e w3 ⟨rfl, hb3⟩
      have R3 := (unhide R2).keep hb3
      have c0 := R3.at (o := 0) (v := .string ⟨#[]⟩) rfl
      have c1 := R3.at (o := 1) (v := .int .i64 0) rfl
      have c2 := R3.at (o := 2) (v := .int .i64 0) rfl
      have c3 := R3.at (o := 3) (v := .int .i64 0) rfl
      have f0 := R3.froz 0
      have f1 := R3.froz 1
      have f2 := R3.froz 2
      have f3 := R3.froz 3
      have zz := R3.lt
      have B3 := hide (bTr (unhide B2) hb3)
      clear R3 R2 B2 hb3 qs
      go_wp2_with fail
      exact bodyPost_ret (v := .agg #[.string o, .int .i64 nn, .int .i64 r, .int .i64 z]) (by simp [results, Tryd.results6, go_sem, c0, c1, c2, c3]) rfl ⟨⟨_, _, r, z, unhide A1, rfl⟩, ((((unhide B3).setCell (Nat.le_refl _) _).setCell (Nat.le_refl _) _).setCell (Nat.le_refl _) _).setCell (Nat.le_refl _) _⟩
    · rw [decide_eq_false h2] at q1
      have A0 := hide (AnsIs.none (s := s) (o := o) (c := c) (n := n) (fun q => h2 (by rw [unhide el]; exact q.2)))
      clear hs el h1 h2
      go_enter Tryd.func6, Tryd.ntmps6
      go_wp2_with (first | (go_at_call 19; refine (unhide q0 _).mono ?_; rintro e w' ⟨rfl, rfl⟩) | (go_at_call 20; refine (unhide q1 _).mono ?_; rintro e w' ⟨rfl, rfl⟩))
      exact bodyPost_ret (v := .agg #[.string ⟨#[]⟩, .int .i64 0, .int .i64 0, .int .i64 0]) (by simp [results, Tryd.results6, go_sem]) rfl ⟨⟨_, _, 0, 0, unhide A0, rfl⟩, bAl (Below.refl _ _) _⟩
  · have h1' : secB s = false := by simpa using h1
    rw [h1'] at q0
    have A0 := hide (AnsIs.none (s := s) (o := o) (c := c) (n := n) (fun q => h1 q.1))
    clear hs el h1 h1' q1
    go_enter Tryd.func6, Tryd.ntmps6
    go_wp2_with (go_at_call 19; refine (unhide q0 _).mono ?_; rintro e w' ⟨rfl, rfl⟩)
    exact bodyPost_ret (v := .agg #[.string ⟨#[]⟩, .int .i64 0, .int .i64 0, .int .i64 0]) (by simp [results, Tryd.results6, go_sem]) rfl ⟨⟨_, _, 0, 0, unhide A0, rfl⟩, bAl (Below.refl _ _) _⟩
set_option maxHeartbeats 2000000 in
theorem iAnswerChallenge_any (s : Int) (o : ByteArray) (a : Option Addr) (len cap : Nat) (c : List UInt8) (n : Int) (w : World) (hs : SlB w w.heap.size a len c) (hM : Mults w) :
    Calls Tryd.prog 5 #[.int .i64 s, .string o, .slice a len cap, .int .i64 n] w fun e w' => RetAns s o c n e ∧ Below w.heap.size w w' := by
  have q0 := hide (iSecret_any s)
  have q1 := hide (goodAnswering_any o a len cap n)
  have el := hide hs.1
  by_cases h1 : secB s = true
  · have hsec := hide h1
    rw [h1] at q0
    by_cases h2 : AskOk o.size len n
    · rw [decide_eq_true h2] at q1
      have OK := hide (show ansOk s o.size c.length n from ⟨h1, by rw [← unhide el]; exact h2⟩)
      obtain ⟨sn, rfl, s1, s2⟩ := secB_nat h1
      obtain ⟨⟨o1, o2⟩, l1, n1, n2⟩ := h2
      obtain ⟨nn, rfl⟩ := Int.eq_ofNat_of_zero_le n1
      obtain ⟨W, hW⟩ : ∃ W, W = w.alloc (.cells #[.string ⟨#[]⟩, .int .i64 0, .int .i64 0, .int .i64 0] 28) := ⟨_, rfl⟩
      have B0 : Below w.heap.size w W := by rw [hW]; exact bAl (Below.refl _ _) _
      have R0 := hide (show RowIs W w.heap.size #[.string ⟨#[]⟩, .int .i64 0, .int .i64 0, .int .i64 0] 28 by rw [hW]; exact RowIs.new _ _ _)
      have qd := hide (answerData_any o a len cap c nn W (by omega) (by omega) ((hs.keep B0).mono B0.size) (hM.keepB B0 hM.1))
      have HB := hide B0
      have HW := hide hW.symm
      have HM := hide hM
      have h00 := hM.1
      clear hM
      clear hs hW B0 h1
      go_enter Tryd.func5, Tryd.ntmps5
      go_wp2_with (first | (go_at_call 15; refine (unhide q0 _).mono ?_; rintro e w' ⟨rfl, rfl⟩) | (go_at_call 16; refine (unhide q1 _).mono ?_; rintro e w' ⟨rfl, rfl⟩))
      rw [unhide HW]
      refine (unhide qd).mono ?_
      rintro e w2 ⟨v, D, hD, rfl, ho, hb⟩
      have lD := hide (show D.length = 36 by rw [unhide hD]; exact ansD_len _ _ _)
      obtain ⟨b2, c2, rfl, _, _, _, hs2⟩ := own_some ho (by rw [unhide lD]; decide)
      have R2 := (unhide R0).keep hb
      have B2 := hide (bTr (unhide HB) hb)
      have qs := hide (iSign_any sn _ D.length c2 D w2 (by rw [unhide lD]; decide) hs2 ((unhide HM).keepB (unhide B2) h00))
      obtain ⟨r, hr⟩ : ∃ r, r = rN sn D := ⟨_, rfl⟩
      obtain ⟨z, hz⟩ : ∃ z, z = zN sn D := ⟨_, rfl⟩
      have ss := sg_yes (s := (sn : Int)) (d := D) ⟨unhide hsec, by rw [unhide lD]; decide⟩
      rw [ss.1, ss.2] at qs
      clear ss
      rw [show ((sn : Nat) : Int).toNat = sn from rfl] at qs
      rw [← hr, ← hz] at qs
      have A1 := hide (show AnsIs sn o c nn o nn r z from { yes := fun _ => ⟨rfl, rfl, ⟨by rw [hr, unhide hD]; rfl, by rw [hz, unhide hD]; rfl⟩⟩, no := fun q => absurd (unhide OK) q })
      replace R2 := hide R2
      clear ho hs2 hb hD hr hz HW R0 HB
      go_wp2_with fail
      refine (unhide qs).mono ?_
      rintro e w3 ⟨rfl, hb3⟩
      have R3 := (unhide R2).keep hb3
      have c0 := R3.at (o := 0) (v := .string ⟨#[]⟩) rfl
      have c1 := R3.at (o := 1) (v := .int .i64 0) rfl
      have c2 := R3.at (o := 2) (v := .int .i64 0) rfl
      have c3 := R3.at (o := 3) (v := .int .i64 0) rfl
      have f0 := R3.froz 0
      have f1 := R3.froz 1
      have f2 := R3.froz 2
      have f3 := R3.froz 3
      have zz := R3.lt
      have B3 := hide (bTr (unhide B2) hb3)
      clear R3 R2 B2 hb3 qs
      go_wp2_with fail
      exact bodyPost_ret (v := .agg #[.string o, .int .i64 nn, .int .i64 r, .int .i64 z]) (by simp [results, Tryd.results5, go_sem, c0, c1, c2, c3]) rfl ⟨⟨_, _, r, z, unhide A1, rfl⟩, ((((unhide B3).setCell (Nat.le_refl _) _).setCell (Nat.le_refl _) _).setCell (Nat.le_refl _) _).setCell (Nat.le_refl _) _⟩
    · rw [decide_eq_false h2] at q1
      have A0 := hide (AnsIs.none (s := s) (o := o) (c := c) (n := n) (fun q => h2 (by rw [unhide el]; exact q.2)))
      clear hs el h1 h2
      go_enter Tryd.func5, Tryd.ntmps5
      go_wp2_with (first | (go_at_call 15; refine (unhide q0 _).mono ?_; rintro e w' ⟨rfl, rfl⟩) | (go_at_call 16; refine (unhide q1 _).mono ?_; rintro e w' ⟨rfl, rfl⟩))
      exact bodyPost_ret (v := .agg #[.string ⟨#[]⟩, .int .i64 0, .int .i64 0, .int .i64 0]) (by simp [results, Tryd.results5, go_sem]) rfl ⟨⟨_, _, 0, 0, unhide A0, rfl⟩, bAl (Below.refl _ _) _⟩
  · have h1' : secB s = false := by simpa using h1
    rw [h1'] at q0
    have A0 := hide (AnsIs.none (s := s) (o := o) (c := c) (n := n) (fun q => h1 q.1))
    clear hs el h1 h1' q1
    go_enter Tryd.func5, Tryd.ntmps5
    go_wp2_with (go_at_call 15; refine (unhide q0 _).mono ?_; rintro e w' ⟨rfl, rfl⟩)
    exact bodyPost_ret (v := .agg #[.string ⟨#[]⟩, .int .i64 0, .int .i64 0, .int .i64 0]) (by simp [results, Tryd.results5, go_sem]) rfl ⟨⟨_, _, 0, 0, unhide A0, rfl⟩, bAl (Below.refl _ _) _⟩
end Go.Proofs.YtlgloffdinnpfaaDoor.D
