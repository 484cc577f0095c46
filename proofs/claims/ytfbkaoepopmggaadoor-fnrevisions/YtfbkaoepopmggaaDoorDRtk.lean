/- impl.guessNum, impl.ReadToken, spec.ReadToken. -/
import Derived.Test.YtfbkaoepopmggaaDoorDTok
import Derived.Test.YtfbkaoepopmggaaDoorDLk
import Derived.Test.YtfbkaoepopmggaaDoorQWho
namespace Go.Proofs.YtfbkaoepopmggaaDoor.D
open Go.RowKit
set_option maxRecDepth 20000

theorem var_stays {w w' : World} {n : String} {g : Nat} {x : Value} (hg : Tryd.prog.globalNamed n = some g) (h : w.var? Tryd.prog n = some #[x]) (hb : Below w.heap.size w w') : w'.var? Tryd.prog n = some #[x] := by
  have hc := World.var?_cell hg h 0
  have hz : g < w.heap.size := by
    apply Classical.byContradiction
    intro hn
    unfold World.cell? at hc
    rw [Array.getElem?_eq_none (by show w.heap.size ≤ g; omega)] at hc
    simp at hc
  rw [← h]
  unfold World.var?
  rw [hg]
  simp only [Option.bind_some]
  rw [hb.block g hz]
theorem Errs.keep {w w' : World} (h : Errs w) (hb : Below w.heap.size w w') : Errs w' := by
  obtain ⟨⟨tp, p, h1⟩, ⟨tq, q, h2⟩⟩ := h
  exact ⟨⟨tp, p, var_stays gRan h1 hb⟩, ⟨tq, q, var_stays gSyn h2 hb⟩⟩
def NumRet (l : List UInt8) (e : Ending) : Prop := ∃ N : Int, e = .returned (.int .i64 N) ∧ (-9223372036854775808 ≤ N ∧ N ≤ 9223372036854775807) ∧ ∀ n : Int, -9223372036854775808 ≤ n → n ≤ 9223372036854775807 → l = Lib.itoa n → N = n

theorem guessNum_any (s : ByteArray) (w : World) (hs : s.size ≤ 1048576) (hE : Errs w) :
    Calls Tryd.prog 24 #[.string s] w fun e w' => NumRet s.data.toList e ∧ Below w.heap.size w w' := by
  obtain ⟨⟨tp, p, h1⟩, ⟨tq, q, h2⟩⟩ := hE
  have hall := hide (fun n h0 h1 (e : s.data.toList = Lib.itoa n) => (show Lib.atoiAll s.data.toList = .ok n by rw [e]; exact atoi_itoa n h0 h1))
  cases hA : Lib.atoiAll s.data.toList with
  | ok v =>
    have hv := Lib.atoiAll_bounds hA
    have q := hide (Tryd.strconv_Atoi_ok s (by omega) v hA)
    go_enter Tryd.func24, Tryd.ntmps24
    go_wp2_with fail
    refine (unhide q _).mono ?_
    rintro e w1 ⟨rfl, hw⟩
    have B1 := hide (show Below w.heap.size w w1 by
      rcases hw with rfl | ⟨t, rfl⟩
      · exact Below.refl _ _
      · exact Go.Joins.below_bytesWorld _ _ _ _ (Nat.le_refl _))
    clear hw q
    go_wp2_with fail
    go_ret
    exact ⟨⟨v, rfl, hv, fun n a b e => by have := unhide hall n a b e; rw [hA] at this; injection this⟩, unhide B1⟩
  | «syntax» =>
    have q := hide (fun w hv => Tryd.strconv_Atoi_syntax_var s (by omega) hA tq q w hv)
    go_enter Tryd.func24, Tryd.ntmps24
    go_wp2_with fail
    refine (unhide q _ h2).mono ?_
    rintro e w1 ⟨n, rfl, -, -, hb1⟩
    have B1 := hide hb1
    clear hb1 q
    go_wp2_with fail
    go_ret
    exact ⟨⟨0, rfl, by omega, fun n a b e => by have := unhide hall n a b e; rw [hA] at this; cases this⟩, unhide B1⟩
  | range =>
    have hv := Lib.atoiSat_bounds s.data.toList
    have q := hide (fun w hv => Tryd.strconv_Atoi_range_var s (by omega) hA tp p w hv)
    generalize Lib.atoiSat s.data.toList = V at hv q
    go_enter Tryd.func24, Tryd.ntmps24
    go_wp2_with fail
    refine (unhide q _ h1).mono ?_
    rintro e w1 ⟨n, rfl, -, -, hb1⟩
    have B1 := hide hb1
    clear hb1 q
    go_wp2_with fail
    go_ret
    exact ⟨⟨V, rfl, hv, fun n a b e => by have := unhide hall n a b e; rw [hA] at this; cases this⟩, unhide B1⟩

/-- What a read token is: the rev and the word. -/
structure TokIs (s : Int) (t : ByteArray) (r : Int) (b : Bool) : Prop where
  yes : b = true → t ≠ ⟨#[]⟩ ∧ tokT s r = t ∧ (-9223372036854775808 ≤ r ∧ r ≤ 9223372036854775807)
  no : b = false → r = 0 ∧ ∀ n : Int, -9223372036854775808 ≤ n → n ≤ 9223372036854775807 → t ≠ ⟨#[]⟩ → ¬ tokT s n = t
def TokRet (s : Int) (t : ByteArray) (e : Ending) : Prop := ∃ (r : Int) (b : Bool), e = .returned (.tuple #[.int .i64 r, .bool b]) ∧ TokIs s t r b

/-- The bytes of a token. -/
theorem tok_list {s r : Int} {t : ByteArray} (h : tokT s r = t) (ht : t ≠ ⟨#[]⟩) : secB s = true ∧ 0 ≤ r ∧ r ≤ 1000000 ∧ ∃ A : List UInt8, t.data.toList = 114 :: (Lib.decDigits r.toNat ++ 46 :: A) := by
  unfold tokT at h
  split at h
  · rename_i hg
    obtain ⟨h2, h3, h4⟩ := hg
    refine ⟨h2, h3, h4, arm (tokB s.toNat r), ?_⟩
    rw [← h]
    have e : Lib.itoa r = Lib.decDigits r.toNat := by unfold Lib.itoa; rw [if_neg (by omega)]
    unfold tok tokH
    rw [e]
    simp [ByteArray.data_append]
  · exact absurd h.symm ht
theorem dec_no {c : UInt8} (u : Nat) (h : ¬ Dig c) : c ∉ Lib.decDigits u := fun hc => h (dec_dig u c hc)
theorem itoa_nn {r : Int} (h : 0 ≤ r) : Lib.itoa r = Lib.decDigits r.toNat := by unfold Lib.itoa; rw [if_neg (by omega)]
theorem TokIs.uniq {s : Int} {t : ByteArray} {r r' : Int} {b b' : Bool} (h : TokIs s t r b) (k : TokIs s t r' b') : r = r' ∧ b = b' := by
  cases b with
  | true =>
    obtain ⟨a1, a2, a3, a4⟩ := h.yes rfl
    cases b' with
    | true =>
      obtain ⟨b1, b2, b3, b4⟩ := k.yes rfl
      refine ⟨?_, rfl⟩
      obtain ⟨_, c1, c2, A, e⟩ := tok_list a2 a1
      obtain ⟨_, d1, d2, B, e'⟩ := tok_list b2 b1
      rw [e] at e'
      injection e' with _ e'
      have x := congrArg (fun l => (cutC 46 l).1) e'
      simp only [cutC_app 46 _ _ (dec_no _ (by unfold Dig; decide))] at x
      rw [← itoa_nn c1, ← itoa_nn d1] at x
      exact itoa_inj (by omega) (by omega) (by omega) (by omega) x
    | false =>
      exact absurd a2 ((k.no rfl).2 r a3 a4 a1)
  | false =>
    cases b' with
    | true =>
      obtain ⟨b1, b2, b3, b4⟩ := k.yes rfl
      exact absurd b2 ((h.no rfl).2 r' b3 b4 b1)
    | false => exact ⟨by rw [(h.no rfl).1, (k.no rfl).1], rfl⟩

set_option maxHeartbeats 1000000 in
theorem iReadToken_any (s : Int) (t : ByteArray) (w : World) (ht : t.size ≤ 1048576) (hM : Mults w) (hT : Tab w) (hE : Errs w) :
    Calls Tryd.prog 9 #[.int .i64 s, .string t] w fun e w' => TokRet s t e ∧ Below w.heap.size w w' := by
  have HM := hide hM
  have HT := hide hT
  have HE := hide hE
  clear hM hT hE
  have q1 := hide (fun w => Tryd.strings_TrimPrefix t ⟨#[114]⟩ w)
  obtain ⟨P, hP⟩ : ∃ P : ByteArray, (⟨(Lib.trimPrefix t.data.toList [114]).toArray⟩ : ByteArray) = P := ⟨_, rfl⟩
  have zP : P.size ≤ 1048576 := by
    rw [← hP]
    show (Lib.trimPrefix t.data.toList [114]).toArray.size ≤ _
    have := sz_list t
    unfold Lib.trimPrefix
    split
    · simp; omega
    · simp; omega
  have q2 := hide (fun w => strCutC 46 P w zP)
  obtain ⟨D, hD⟩ : ∃ D : ByteArray, (⟨(cutC 46 P.data.toList).1.toArray⟩ : ByteArray) = D := ⟨_, rfl⟩
  have zD : D.size ≤ 1048576 := by
    rw [← hD]
    show (cutC 46 P.data.toList).1.toArray.size ≤ _
    have := sz_list P
    unfold cutC
    split
    · simp; omega
    · simp; omega
  have q3 := hide (fun w h => guessNum_any D w zD h)
  have hfit := hide (show ∀ n : Int, tokT s n = t → t ≠ ⟨#[]⟩ → D.data.toList = Lib.itoa n by
    intro n hn hne
    obtain ⟨_, c1, c2, A, e⟩ := tok_list hn hne
    have e2 : P.data.toList = Lib.decDigits n.toNat ++ 46 :: A := by
      rw [← hP, e]
      simp [Lib.trimPrefix, Lib.hasPrefix]
    rw [← hD, e2, cutC_app 46 _ _ (dec_no _ (by unfold Dig; decide)), itoa_nn c1])
  rw [show (⟨#[114]⟩ : ByteArray).data.toList = [114] from rfl, hP] at q1
  rw [hD] at q2
  generalize (⟨(cutC 46 P.data.toList).2.toArray⟩ : ByteArray) = D2 at q2
  clear hP hD zP
  go_enter Tryd.func9, Tryd.ntmps9
  go_wp2_with fail
  refine (unhide q1 _).mono ?_
  rintro e w1 ⟨rfl, rfl⟩
  go_wp2_with fail
  refine (unhide q2 _).mono ?_
  rintro e w2 ⟨⟨b, rfl⟩, hb2⟩
  replace HM := hide ((unhide HM).keepB hb2 (unhide HM).1)
  replace HT := hide ((unhide HT).keep hb2)
  replace HE := hide ((unhide HE).keep hb2)
  have B2 := hide hb2
  clear hb2
  go_wp2_with fail
  refine (unhide q3 _ (unhide HE)).mono ?_
  rintro e w3 ⟨⟨N, rfl, ⟨hN0, hN1⟩, hN⟩, hb3⟩
  replace HM := hide ((unhide HM).keepB hb3 (unhide HM).1)
  replace HT := hide ((unhide HT).keep hb3)
  have B3 := hide (bTr (unhide B2) hb3)
  have HN := hide (show ∀ n : Int, -9223372036854775808 ≤ n → n ≤ 9223372036854775807 → t ≠ ⟨#[]⟩ → tokT s n = t → N = n from fun n a c hne e => hN n a c (unhide hfit n e hne))
  clear hb3 B2 hN hfit q1 q2 q3 HE
  by_cases he : t = ⟨#[]⟩
  · subst he
    go_wp2_with fail
    refine bodyPost_ret (v := .tuple #[.int .i64 0, .bool false]) (by simp [results, Tryd.results9, go_sem]) rfl ⟨⟨_, _, rfl, fun h => (by cases h), fun _ => ⟨rfl, fun _ _ _ h => absurd rfl h⟩⟩, unhide B3⟩
  · have he2 : ¬ t.toList = [] := fun e => he (by rw [ByteArray.toList_eq] at e; rw [← mk_list t, e])
    have he3 : t.toList.isEmpty = false := by simpa using he2
    have q4 := hide (fun w a c => iTokenOf_any s N w hN0 hN1 a c)
    obtain ⟨T, hT⟩ : ∃ T, tokT s N = T := ⟨_, rfl⟩
    rw [hT] at q4
    go_wp2_with fail
    refine (unhide q4 _ (unhide HM) (unhide HT)).mono ?_
    rintro e w4 ⟨rfl, hb4⟩
    have B4 := hide (bTr (unhide B3) hb4)
    clear hb4 B3 q4 HM HT
    by_cases hx : T = t
    · subst hx
      go_wp2_with fail
      refine bodyPost_ret (v := .tuple #[.int .i64 N, .bool true]) (by simp [results, Tryd.results9, go_sem]) rfl ⟨⟨_, _, rfl, fun _ => ⟨he, hT, hN0, hN1⟩, fun h => (by cases h)⟩, unhide B4⟩
    · have hx2 : (T.toList == t.toList) = false := by simpa using str_neq hx
      go_wp2_with fail
      refine bodyPost_ret (v := .tuple #[.int .i64 0, .bool false]) (by simp [results, Tryd.results9, go_sem]) rfl ⟨⟨_, _, rfl, fun h => (by cases h), fun _ => ⟨rfl, fun n a c hne e => hx (by have := unhide HN n a c hne e; subst this; rw [← hT]; exact e)⟩⟩, unhide B4⟩

set_option maxHeartbeats 1000000 in
theorem sReadToken_any (s : Int) (t : ByteArray) (w : World) (ht : t.size ≤ 1048576) :
    Calls Tryd.prog 11 #[.int .i64 s, .string t] w fun e w' => TokRet s t e ∧ Below w.heap.size w w' := by
  have q1 := hide (fun w => l7Until_any t ⟨#[46]⟩ w ht (by decide))
  rw [show (⟨#[46]⟩ : ByteArray).data.toList = [46] from rfl] at q1
  obtain ⟨H, hH⟩ : ∃ H : ByteArray, (⟨(t.data.toList.take (untN [46] t.data.toList)).toArray⟩ : ByteArray) = H := ⟨_, rfl⟩
  have zH : H.size ≤ 1048576 := by
    rw [← hH]
    show (t.data.toList.take (untN [46] t.data.toList)).toArray.size ≤ _
    have := sz_list t
    simp; omega
  have hfit := hide (show ∀ n : Int, tokT s n = t → t ≠ ⟨#[]⟩ → H.data.toList = 114 :: Lib.itoa n by
    intro n hn hne
    obtain ⟨_, c1, c2, A, e⟩ := tok_list hn hne
    have e2 : untN [46] t.data.toList = (114 :: Lib.decDigits n.toNat).length := by
      rw [e]
      exact untN_app (a := 114 :: Lib.decDigits n.toNat) (r := A) (by
        intro x hx
        rw [List.mem_cons] at hx
        have : ¬ x = 46 := by
          rcases hx with rfl | hx
          · decide
          · intro e; subst e; exact dec_no _ (by unfold Dig; decide) hx
        simpa using this) (by decide)
    rw [← hH, e2, itoa_nn c1, e]
    simp)
  have hne := hide (show ∀ c r, H.data.toList = c :: r → t ≠ ⟨#[]⟩ by
    intro c r hc he
    rw [← hH, he] at hc
    simp at hc)
  rw [hH] at q1
  generalize (⟨(t.data.toList.drop (untN [46] t.data.toList)).toArray⟩ : ByteArray) = R at q1
  clear hH
  have no0 : ∀ (P : Prop), (∀ n : Int, tokT s n = t → t ≠ ⟨#[]⟩ → False) → TokIs s t 0 false := fun _ h => ⟨fun h => (by cases h), fun _ => ⟨rfl, fun n _ _ a b => h n b a⟩⟩
  cases hsb : secB s with
  | false =>
    have hno := hide (no0 True (fun n hn he => by have := (tok_list hn he).1; rw [hsb] at this; cases this))
    go_enter Tryd.func11, Tryd.ntmps11
    go_wp2_with fail
    refine (unhide q1 _).mono ?_
    rintro e w1 ⟨rfl, hb1⟩
    have B1 := hide hb1
    clear hb1
    go_wp2_with fail
    refine (sSecret_any _ _).mono ?_
    rintro e w2 ⟨rfl, rfl⟩
    rw [hsb]
    go_wp2_with fail
    refine bodyPost_ret (v := .tuple #[.int .i64 0, .bool false]) (by simp [results, Tryd.results11, go_sem]) rfl ⟨⟨_, _, rfl, unhide hno⟩, unhide B1⟩
  | true =>
    have zl := sz_list H
    by_cases h2 : H.size < 2
    · have hno := hide (no0 True (fun n hn he => by
        have e := unhide hfit n hn he
        have := itoa_len20 n (by have := (tok_list hn he).2; omega) (by have := (tok_list hn he).2; omega)
        rw [e, List.length_cons] at zl
        omega))
      go_enter Tryd.func11, Tryd.ntmps11
      go_wp2_with fail
      refine (unhide q1 _).mono ?_
      rintro e w1 ⟨rfl, hb1⟩
      have B1 := hide hb1
      clear hb1
      go_wp2_with fail
      refine (sSecret_any _ _).mono ?_
      rintro e w2 ⟨rfl, rfl⟩
      rw [hsb]
      go_wp2_with fail
      refine bodyPost_ret (v := .tuple #[.int .i64 0, .bool false]) (by simp [results, Tryd.results11, go_sem]) rfl ⟨⟨_, _, rfl, unhide hno⟩, unhide B1⟩
    · have hz0 : 0 < H.size := by omega
      obtain ⟨f, hf⟩ : ∃ f, H[0] = f := ⟨_, rfl⟩
      have hf2 : H.data.toList[0]'(by omega) = f := by rw [← hf]; rfl
      have hcons : ∃ r, H.data.toList = f :: r := by
        cases hl : H.data.toList with
        | nil => rw [hl] at zl; simp at zl; omega
        | cons c r =>
          refine ⟨r, ?_⟩
          have := hf2
          simp only [hl, List.getElem_cons_zero] at this
          rw [this]
      obtain ⟨r, hr⟩ := hcons
      have htn := unhide hne f r hr
      by_cases h114 : f = 114
      · subst h114
        obtain ⟨X, hX⟩ : ∃ X : ByteArray, H.extract 1 H.size = X := ⟨_, rfl⟩
        have eX : X.data.toList = r := by
          rw [← hX, cut_drop, hr]; rfl
        have zX : X.size ≤ 1048576 := by
          rw [← sz_list X, eX]
          rw [hr, List.length_cons] at zl
          omega
        have q3 := hide (fun w => l1Whole_any X w zX)
        rw [eX] at q3
        have hfit2 := hide (show ∀ n : Int, tokT s n = t → r = Lib.itoa n by
          intro n hn
          have e := unhide hfit n hn htn
          rw [hr] at e
          injection e)
        clear hfit hne eX hf2 zX hr
        go_enter Tryd.func11, Tryd.ntmps11
        go_wp2_with fail
        refine (unhide q1 _).mono ?_
        rintro e w1 ⟨rfl, hb1⟩
        have B1 := hide hb1
        clear hb1 q1
        go_wp2_with fail
        refine (sSecret_any _ _).mono ?_
        rintro e w2 ⟨rfl, rfl⟩
        rw [hsb]
        go_wp2_with fail
        refine (unhide q3 _).mono ?_
        rintro e w3 ⟨⟨N, b, rfl, hW⟩, hb3⟩
        have B3 := hide (bTr (unhide B1) hb3)
        clear hb3 B1 q3
        have hN0 := hW.h0
        have hN1 := hW.h1
        have HW := hide hW
        clear hW
        cases b with
        | false =>
          have hno := hide (no0 True (fun n hn he => by
            have h3 := (tok_list hn he).2
            have := ((unhide HW).all n (by omega) (by omega) (unhide hfit2 n hn)).2
            cases this))
          go_wp2_with fail
          refine bodyPost_ret (v := .tuple #[.int .i64 0, .bool false]) (by simp [results, Tryd.results11, go_sem]) rfl ⟨⟨_, _, rfl, unhide hno⟩, unhide B3⟩
        | true =>
          have q4 := hide (fun w => sTokenOf_any s N w hN0 hN1)
          obtain ⟨T, hT⟩ : ∃ T, tokT s N = T := ⟨_, rfl⟩
          rw [hT] at q4
          go_wp2_with fail
          refine (unhide q4 _).mono ?_
          rintro e w4 ⟨rfl, hb4⟩
          have B4 := hide (bTr (unhide B3) hb4)
          clear hb4 B3 q4
          by_cases hx : T = t
          · subst hx
            go_wp2_with fail
            refine bodyPost_ret (v := .tuple #[.int .i64 N, .bool true]) (by simp [results, Tryd.results11, go_sem]) rfl ⟨⟨_, _, rfl, fun _ => ⟨htn, hT, hN0, hN1⟩, fun h => (by cases h)⟩, unhide B4⟩
          · have hx2 : (T.toList == t.toList) = false := by simpa using str_neq hx
            have hno := hide (no0 True (fun n hn he => by
              have h3 := (tok_list hn he).2
              have := ((unhide HW).all n (by omega) (by omega) (unhide hfit2 n hn)).1
              subst this
              exact hx (hT.symm.trans hn)))
            go_wp2_with fail
            refine bodyPost_ret (v := .tuple #[.int .i64 0, .bool false]) (by simp [results, Tryd.results11, go_sem]) rfl ⟨⟨_, _, rfl, unhide hno⟩, unhide B4⟩
      · have hno := hide (no0 True (fun n hn he => by
          have e := unhide hfit n hn he
          rw [hr] at e
          injection e with e
          exact h114 e))
        have h114' : ((f.toNat : Int) == 114) = false := by
          rw [beq_eq_false_iff_ne]
          intro h
          exact h114 (UInt8.toNat_inj.1 (by show f.toNat = 114; omega))
        have h115 : ((f.toNat : Int) != 114) = true := by unfold bne; rw [h114']; rfl
        clear hfit hne hf2 hr
        go_enter Tryd.func11, Tryd.ntmps11
        go_wp2_with fail
        refine (unhide q1 _).mono ?_
        rintro e w1 ⟨rfl, hb1⟩
        have B1 := hide hb1
        clear hb1 q1
        go_wp2_with fail
        refine (sSecret_any _ _).mono ?_
        rintro e w2 ⟨rfl, rfl⟩
        rw [hsb]
        go_wp2_with fail
        refine bodyPost_ret (v := .tuple #[.int .i64 0, .bool false]) (by simp [results, Tryd.results11, go_sem]) rfl ⟨⟨_, _, rfl, unhide hno⟩, unhide B1⟩
end Go.Proofs.YtfbkaoepopmggaaDoor.D
