/- CheckAnswer on both sides. -/
import Derived.Test.YtpagfcdoedlnoaaDoorKAd
namespace Go.Proofs.YtpagfcdoedlnoaaDoor.D
set_option maxRecDepth 20000
open Go.RowKit
/-- Whether the signature of what is shown is right, where all else is as said. -/
def GoodV (x : ShT) (c : List UInt8) (b : Bool) : Prop := ∀ nn : Nat, x.n = nn → VerIs x.P (ansD x.o.data.toList c nn) x.r x.z b
theorem goodV_ex (x : ShT) (c : List UInt8) : ∃ b, GoodV x c b := by
  by_cases h : ∃ nn : Nat, x.n = nn
  · obtain ⟨nn, hn⟩ := h
    by_cases q : PubIs x.P true ∧ (ansD x.o.data.toList c nn).length ≤ 20000 ∧ (1 ≤ x.r ∧ x.r < 2147483579 ∧ 0 ≤ x.z ∧ x.z < 1073741789) ∧ pw 4 x.z.toNat 2147483579 = x.r.toNat * pw x.P.toNat (eN x.r.toNat (ansD x.o.data.toList c nn)) 2147483579 % 2147483579
    · refine ⟨true, fun m hm => ?_⟩
      obtain rfl : nn = m := by rw [hn] at hm; exact Int.ofNat.inj hm
      exact { of := ⟨fun _ => q, fun _ => rfl⟩ }
    · refine ⟨false, fun m hm => ?_⟩
      obtain rfl : nn = m := by rw [hn] at hm; exact Int.ofNat.inj hm
      exact { of := ⟨fun e => absurd e (by decide), fun k => absurd k q⟩ }
  · exact ⟨true, fun m hm => absurd ⟨m, hm⟩ h⟩
/-- What CheckAnswer tells: the fault, and the key behind it. -/
def ckA (x : ShT) (pb vb : Bool) : Int := flt (unf x pb) (oth x) (decide (x.n ≤ x.kc)) (!vb)
def outA (x : ShT) (F : Int) : Value := if F = 0 then .agg #[.int .i64 x.P, .string x.ko, .int .i64 x.n] else .agg #[.int .i64 0, .string ⟨#[]⟩, .int .i64 0]
theorem outA_zero (x : ShT) : outA x 0 = .agg #[.int .i64 x.P, .string x.ko, .int .i64 x.n] := if_pos rfl
theorem outA_not (x : ShT) {F : Int} (h : ¬ F = 0) : outA x F = .agg #[.int .i64 0, .string ⟨#[]⟩, .int .i64 0] := if_neg h
set_option maxHeartbeats 4000000 in
theorem iCheckAnswer_any (x : ShT) (c : List UInt8) (pb vb : Bool) (w : World) (hp : PubIs x.P pb) (hv : GoodV x c vb) (hs : SlB w w.heap.size x.a x.len c) (hM : Mults w) :
    Calls Tryd.prog 15 #[.agg #[.int .i64 x.P, .string x.ko, .int .i64 x.kc], .slice x.a x.len x.cap, .agg #[.string x.o, .int .i64 x.n, .int .i64 x.r, .int .i64 x.z]] w fun e w' => e = .returned (.tuple #[outA x (ckA x pb vb), .int .i64 (ckA x pb vb)]) ∧ Below w.heap.size w w' := by
  obtain ⟨W, hW⟩ : ∃ W, W = ((((w.alloc (.cells #[.int .i64 x.P, .string x.ko, .int .i64 x.kc] 39)).alloc (.cells #[.string x.o, .int .i64 x.n, .int .i64 x.r, .int .i64 x.z] 26)).alloc (.cells #[.int .i64 0, .string ⟨#[]⟩, .int .i64 0] 39)).alloc (.cells x.c 54)).alloc (.cells rulesV 67) := ⟨_, rfl⟩
  have zW : W.heap.size = w.heap.size + 1 + 1 + 1 + 1 + 1 := by rw [hW]; simp
  have B0 : Below w.heap.size w W := by rw [hW]; exact bAl (bAl (bAl (bAl (bAl (Below.refl _ _) _) _) _) _) _
  have Rg : RowIs W (w.heap.size + 1 + 1 + 1 + 1) rulesV 67 := by
    rw [hW]
    have := RowIs.new ((((w.alloc (.cells #[.int .i64 x.P, .string x.ko, .int .i64 x.kc] 39)).alloc (.cells #[.string x.o, .int .i64 x.n, .int .i64 x.r, .int .i64 x.z] 26)).alloc (.cells #[.int .i64 0, .string ⟨#[]⟩, .int .i64 0] 39)).alloc (.cells x.c 54)) rulesV 67
    simpa using this
  have Rk : RowIs W w.heap.size #[.int .i64 x.P, .string x.ko, .int .i64 x.kc] 39 := by
    rw [hW]; exact ((((RowIs.new w _ _).keep (bAl (Below.refl _ _) _)).keep (bAl (Below.refl _ _) _)).keep (bAl (Below.refl _ _) _)).keep (bAl (Below.refl _ _) _)
  have Ra : RowIs W (w.heap.size + 1) #[.string x.o, .int .i64 x.n, .int .i64 x.r, .int .i64 x.z] 26 := by
    rw [hW]
    have := (((RowIs.new (w.alloc (.cells #[.int .i64 x.P, .string x.ko, .int .i64 x.kc] 39)) #[.string x.o, .int .i64 x.n, .int .i64 x.r, .int .i64 x.z] 26).keep (bAl (Below.refl _ _) (.cells #[.int .i64 0, .string ⟨#[]⟩, .int .i64 0] 39))).keep (bAl (Below.refl _ _) (.cells x.c 54))).keep (bAl (Below.refl _ _) (.cells rulesV 67))
    simpa using this
  have Rr : RowIs W (w.heap.size + 1 + 1) #[.int .i64 0, .string ⟨#[]⟩, .int .i64 0] 39 := by
    rw [hW]
    have := ((RowIs.new ((w.alloc (.cells #[.int .i64 x.P, .string x.ko, .int .i64 x.kc] 39)).alloc (.cells #[.string x.o, .int .i64 x.n, .int .i64 x.r, .int .i64 x.z] 26)) #[.int .i64 0, .string ⟨#[]⟩, .int .i64 0] 39).keep (bAl (Below.refl _ _) (.cells x.c 54))).keep (bAl (Below.refl _ _) (.cells rulesV 67))
    simpa using this
  have q := hide (fb_any x (w.heap.size + 1 + 1 + 1 + 1) (unf x pb) (oth x) (decide (x.n ≤ x.kc)) (!vb) W Rg
    (fun w' _ => unfit_any x pb w' hp) (fun _ w' _ => other_any x w') (fun _ _ w' _ => used_any x w')
    (fun e1 e2 e3 w' hb => by
      have hB := bTr B0 hb
      have u1 : (pb && (decide (AskOk x.ko.size x.len x.kc) && decide (0 ≤ x.n ∧ x.n ≤ 1000000000))) = true := by unfold unf at e1; simpa using e1
      rw [Bool.and_eq_true, Bool.and_eq_true, decide_eq_true_eq, decide_eq_true_eq] at u1
      have u2 : x.o = x.ko := by unfold oth at e2; simpa using e2
      obtain ⟨nn, hn⟩ := Int.eq_ofNat_of_zero_le u1.2.2.1
      exact forged_any x nn c vb w' hn (by rw [u2]; have := u1.2.1.1.2; omega) (by have := u1.2.1.2.1; omega) (hv nn hn) ((hs.keepB hB).mono hB.size) (hM.keepB hB hM.1)))
  have HB := hide B0
  have HW := hide hW.symm
  have HRk := hide Rk
  have HRa := hide Ra
  have HRr := hide Rr
  clear hp hv hs hM hW B0 Rg Rk Ra Rr zW
  rw [show flt (unf x pb) (oth x) (decide (x.n ≤ x.kc)) (!vb) = ckA x pb vb from rfl] at q
  generalize ckA x pb vb = F at *
  unfold ShT.c rulesV at HW
  unfold ShT.v at q
  go_enter Tryd.func15, Tryd.ntmps15
  go_wp2_with fail
  rw [unhide HW]
  refine (unhide q).mono ?_
  rintro e w2 ⟨rfl, hb2⟩
  have k2 := (unhide HRk).keep hb2
  have a2 := (unhide HRa).keep hb2
  have r2 := (unhide HRr).keep hb2
  have k0 := k2.at (o := 0) (v := .int .i64 x.P) rfl
  have k1 := k2.at (o := 1) (v := .string x.ko) rfl
  have k3 := k2.at (o := 2) (v := .int .i64 x.kc) rfl
  have kf := k2.froz 2
  have kz := k2.lt
  have a1 := a2.at (o := 1) (v := .int .i64 x.n) rfl
  have az := a2.lt
  have r0 := r2.at (o := 0) (v := .int .i64 0) rfl
  have r1 := r2.at (o := 1) (v := .string ⟨#[]⟩) rfl
  have r3 := r2.at (o := 2) (v := .int .i64 0) rfl
  have f0 := r2.froz 0
  have f1 := r2.froz 1
  have f2 := r2.froz 2
  have rz := r2.lt
  have B2 := hide (bTr (unhide HB) hb2)
  clear k2 a2 r2 hb2 HRk HRa HRr HB HW q
  by_cases hF : F = 0
  · subst hF
    go_wp2_with fail
    exact bodyPost_ret (v := .tuple #[.agg #[.int .i64 x.P, .string x.ko, .int .i64 x.n], .int .i64 0]) (by simp [results, Tryd.results15, go_sem, r0, r1, r3]) rfl ⟨by rw [outA_zero], ((((unhide B2).setCell (by simp) _).setCell (by simp; omega) _).setCell (by simp; omega) _).setCell (by simp; omega) _⟩
  · have hF2 : (F != 0) = true := by simpa using hF
    go_wp2_with fail
    exact bodyPost_ret (v := .tuple #[.agg #[.int .i64 0, .string ⟨#[]⟩, .int .i64 0], .int .i64 F]) (by simp [results, Tryd.results15, go_sem, r0, r1, r3]) rfl ⟨by rw [outA_not x hF], (((unhide B2).setCell (by simp; omega) _).setCell (by simp; omega) _).setCell (by simp; omega) _⟩
theorem fiveB {w' : World} {b1 b2 T1 T2 : Nat} {x0 x1 x2 y0 y1 y2 y3 : Value} (h : RowIs w' b1 #[x0, x1, x2] T1) (k : RowIs w' b2 #[y0, y1, y2, y3] T2) :
    (w'.cell? ⟨b1, 0, none⟩ = some x0 ∧ w'.cell? ⟨b1, 1, none⟩ = some x1) ∧ w'.cell? ⟨b2, 1, none⟩ = some y1 ∧ w'.cell? ⟨b2, 2, none⟩ = some y2 ∧ w'.cell? ⟨b2, 3, none⟩ = some y3 :=
  ⟨⟨h.at rfl, h.at rfl⟩, k.at rfl, k.at rfl, k.at rfl⟩
set_option maxHeartbeats 4000000 in
theorem sCheckAnswer_any (x : ShT) (c : List UInt8) (pb vb : Bool) (w : World) (hp : PubIs x.P pb) (hv : GoodV x c vb) (hs : SlB w w.heap.size x.a x.len c) :
    Calls Tryd.prog 12 #[.agg #[.int .i64 x.P, .string x.ko, .int .i64 x.kc], .slice x.a x.len x.cap, .agg #[.string x.o, .int .i64 x.n, .int .i64 x.r, .int .i64 x.z]] w fun e w' => e = .returned (.tuple #[outA x (ckA x pb vb), .int .i64 (ckA x pb vb)]) ∧ Below w.heap.size w w' := by
  have q0 := hide (l16Asked_any x.ko x.a x.len x.cap x.kc)
  have q1 := hide (l16Asked_any x.ko x.a x.len x.cap x.n)
  have q2 := hide (fun w => sPublic_b hp w)
  have hun : unf x pb = !(decide (AskOk x.ko.size x.len x.kc) && (decide (AskOk x.ko.size x.len x.n) && pb)) := by
    unfold unf
    cases pb
    · simp
    · by_cases h1 : AskOk x.ko.size x.len x.kc
      · rw [decide_eq_true h1]
        congr 1
        simp only [Bool.true_and, Bool.and_true]
        rw [Bool.eq_iff_iff, decide_eq_true_eq, decide_eq_true_eq]
        unfold AskOk at *; omega
      · rw [decide_eq_false h1]; rfl
  have HC := hide (show ckA x pb vb = flt (unf x pb) (oth x) (decide (x.n ≤ x.kc)) (!vb) from rfl)
  rw [hun] at HC
  clear hun
  by_cases hA : AskOk x.ko.size x.len x.kc ∧ AskOk x.ko.size x.len x.n ∧ pb = true
  · obtain ⟨a1, a2, rfl⟩ := hA
    rw [decide_eq_true a1] at q0 HC
    rw [decide_eq_true a2] at q1 HC
    replace HC := hide (show ckA x true vb = flt false (oth x) (decide (x.n ≤ x.kc)) (!vb) from unhide HC)
    by_cases hO : x.o = x.ko
    · rw [show oth x = false by unfold oth; rw [decide_eq_true hO]; rfl] at HC
      by_cases hN : x.n ≤ x.kc
      · rw [decide_eq_true hN] at HC
        have E := hide (show ckA x true vb = 3 from unhide HC)
        obtain ⟨o, n, r, z, P, ko, kc, a, len, cap⟩ := x
        simp only at *
        subst hO
        clear HC hp hv hs a1 a2
        go_enter Tryd.func12, Tryd.ntmps12
        go_wp2_with (first | (go_at_call 18; (first | with_reducible refine (unhide q0 _).mono ?_ | with_reducible refine (unhide q1 _).mono ?_); rintro e w' ⟨rfl, rfl⟩) | (go_at_call 26; refine (unhide q2 _).mono ?_; rintro e w' ⟨rfl, rfl⟩))
        exact bodyPost_ret (v := .tuple #[.agg #[.int .i64 0, .string ⟨#[]⟩, .int .i64 0], .int .i64 3]) (by simp [results, Tryd.results12, go_sem]) rfl ⟨by rw [unhide E, outA_not _ (by decide)], bAl (bAl (bAl (Below.refl _ _) _) _) _⟩
      · rw [decide_eq_false hN] at HC
        obtain ⟨nn, hn⟩ := Int.eq_ofNat_of_zero_le a2.2.2.1
        have HV := hide (hv nn hn)
        obtain ⟨o, n, r, z, P, ko, kc, a, len, cap⟩ := x
        simp only at *
        subst hO hn
        obtain ⟨⟨o1, o2⟩, l1, n1, n2⟩ := a2
        obtain ⟨W, hW⟩ : ∃ W, W = ((w.alloc (.cells #[.int .i64 P, .string o, .int .i64 kc] 39)).alloc (.cells #[.string o, .int .i64 (nn : Int), .int .i64 r, .int .i64 z] 26)).alloc (.cells #[.int .i64 0, .string ⟨#[]⟩, .int .i64 0] 39) := ⟨_, rfl⟩
        have B0 : Below w.heap.size w W := by rw [hW]; exact bAl (bAl (bAl (Below.refl _ _) _) _) _
        have Rk : RowIs W w.heap.size #[.int .i64 P, .string o, .int .i64 kc] 39 := by
          rw [hW]; exact ((RowIs.new w _ _).keep (bAl (Below.refl _ _) _)).keep (bAl (Below.refl _ _) _)
        have Ra : RowIs W (w.heap.size + 1) #[.string o, .int .i64 (nn : Int), .int .i64 r, .int .i64 z] 26 := by
          rw [hW]
          have := (RowIs.new (w.alloc (.cells #[.int .i64 P, .string o, .int .i64 kc] 39)) #[.string o, .int .i64 (nn : Int), .int .i64 r, .int .i64 z] 26).keep (bAl (Below.refl _ _) (.cells #[.int .i64 0, .string ⟨#[]⟩, .int .i64 0] 39))
          simpa using this
        have Rr : RowIs W (w.heap.size + 1 + 1) #[.int .i64 0, .string ⟨#[]⟩, .int .i64 0] 39 := by
          rw [hW]
          have := RowIs.new ((w.alloc (.cells #[.int .i64 P, .string o, .int .i64 kc] 39)).alloc (.cells #[.string o, .int .i64 (nn : Int), .int .i64 r, .int .i64 z] 26)) #[.int .i64 0, .string ⟨#[]⟩, .int .i64 0] 39
          simpa using this
        have HB := hide B0
        have HW := hide hW.symm
        have HS := hide ((hs.keep B0).mono B0.size)
        have HRk := hide Rk
        have HRa := hide Ra
        have HRr := hide Rr
        have o9 : o.size ≤ 1048576 := by omega
        have l9 : len ≤ 1048576 := by omega
        have n9 : nn < 4611686018427387904 := by omega
        clear hp hv hs a1 hW B0 Rk Ra Rr
        go_enter Tryd.func12, Tryd.ntmps12
        go_wp2_with (first | (go_at_call 18; (first | with_reducible refine (unhide q0 _).mono ?_ | with_reducible refine (unhide q1 _).mono ?_); rintro e w' ⟨rfl, rfl⟩) | (go_at_call 26; refine (unhide q2 _).mono ?_; rintro e w' ⟨rfl, rfl⟩))
        rw [unhide HW]
        have D1 : Below W.heap.size W W.drew := (Below.refl _ _).drew
        have KC := hide ((unhide HRk).keep D1)
        have AC := hide ((unhide HRa).keep D1)
        have RC := hide ((unhide HRr).keep D1)
        have B7 := hide (bTr (unhide HB) D1)
        have qd := hide (l16Bytes_any o a len cap c nn W.drew o9 l9 n9 (((unhide HS).keep D1).mono D1.size))
        go_region_held3 (fun w' => (w'.cell? ⟨w.heap.size, 0, none⟩ = some (.int .i64 P) ∧ w'.cell? ⟨w.heap.size, 1, none⟩ = some (.string o)) ∧ w'.cell? ⟨w.heap.size + 1, 1, none⟩ = some (.int .i64 (nn : Int)) ∧ w'.cell? ⟨w.heap.size + 1, 2, none⟩ = some (.int .i64 r) ∧ w'.cell? ⟨w.heap.size + 1, 3, none⟩ = some (.int .i64 z))
          (first
            | exact fiveB (unhide KC) (unhide AC)
            | exact fiveB (unhide HRk) (unhide HRa))
          (first
            | (go_at_call 20; refine (unhide qd).mono ?_; rintro e w2 ⟨v, D, hD, rfl, ho2, hb2⟩; have lD := hide (show D.length = 36 by rw [unhide hD]; exact ansD_len _ _ _); obtain ⟨b2, c2, rfl, _, _, _, hs2⟩ := own_some ho2 (by rw [unhide lD]; decide); replace KC := hide ((unhide KC).keep hb2); replace AC := hide ((unhide AC).keep hb2); replace RC := hide ((unhide RC).keep hb2); replace B7 := hide (bTr (unhide B7) hb2); have S2 := hide hs2; clear ho2 hs2 hb2)
            | (go_at_call 27; have lDD := unhide lD; refine (sVerify_any P _ D.length c2 D r z _ (by rw [unhide lD]; decide) (unhide S2)).mono ?_; rintro e w3 ⟨⟨bv, hbv, rfl⟩, hb3⟩; rw [unhide hD] at hbv; obtain rfl := hbv.one (unhide HV); replace KC := hide ((unhide KC).keep hb3); replace AC := hide ((unhide AC).keep hb3); replace RC := hide ((unhide RC).keep hb3); replace B7 := hide (bTr (unhide B7) hb3); clear hb3 hbv lDD))
        have k0 := (unhide KC).at (o := 0) (v := .int .i64 P) rfl
        have k1 := (unhide KC).at (o := 1) (v := .string o) rfl
        have k3 := (unhide KC).at (o := 2) (v := .int .i64 kc) rfl
        have kf := (unhide KC).froz 2
        have kz := (unhide KC).lt
        have a1 := (unhide AC).at (o := 1) (v := .int .i64 (nn : Int)) rfl
        have az := (unhide AC).lt
        have r0 := (unhide RC).at (o := 0) (v := .int .i64 0) rfl
        have r1 := (unhide RC).at (o := 1) (v := .string ⟨#[]⟩) rfl
        have r3 := (unhide RC).at (o := 2) (v := .int .i64 0) rfl
        have f0 := (unhide RC).froz 0
        have f1 := (unhide RC).froz 1
        have f2 := (unhide RC).froz 2
        have rz := (unhide RC).lt
        clear KC AC RC HRk HRa HRr HB HW HS qd D1
        cases bv
        · have E := hide (show ckA ⟨o, nn, r, z, P, o, kc, a, len, cap⟩ true false = 4 from unhide HC)
          clear HC HV
          go_wp2_with fail
          exact bodyPost_ret (v := .tuple #[.agg #[.int .i64 0, .string ⟨#[]⟩, .int .i64 0], .int .i64 4]) (by simp [results, Tryd.results12, go_sem, r0, r1, r3]) rfl ⟨by rw [unhide E, outA_not _ (by decide)], (((unhide B7).setCell (by simp; omega) _).setCell (by simp; omega) _).setCell (by simp; omega) _⟩
        · have E := hide (show ckA ⟨o, nn, r, z, P, o, kc, a, len, cap⟩ true true = 0 from unhide HC)
          clear HC HV
          go_wp2_with fail
          exact bodyPost_ret (v := .tuple #[.agg #[.int .i64 P, .string o, .int .i64 (nn : Int)], .int .i64 0]) (by simp [results, Tryd.results12, go_sem, r0, r1, r3]) rfl ⟨by rw [unhide E, outA_zero], ((((unhide B7).setCell (by simp) _).setCell (by simp; omega) _).setCell (by simp; omega) _).setCell (by simp; omega) _⟩
    · rw [show oth x = true by unfold oth; rw [decide_eq_false hO]; rfl] at HC
      have E := hide (show ckA x true vb = 2 from unhide HC)
      have h4 : (x.o.toList == x.ko.toList) = false := by simpa [ByteArray.toList_eq] using fun e => hO (ByteArray.ext (Array.toList_inj.1 (by simpa using e)))
      clear HC hp hv hs a1 a2 hO
      go_enter Tryd.func12, Tryd.ntmps12
      go_wp2_with (first | (go_at_call 18; (first | with_reducible refine (unhide q0 _).mono ?_ | with_reducible refine (unhide q1 _).mono ?_); rintro e w' ⟨rfl, rfl⟩) | (go_at_call 26; refine (unhide q2 _).mono ?_; rintro e w' ⟨rfl, rfl⟩))
      exact bodyPost_ret (v := .tuple #[.agg #[.int .i64 0, .string ⟨#[]⟩, .int .i64 0], .int .i64 2]) (by simp [results, Tryd.results12, go_sem]) rfl ⟨by rw [unhide E, outA_not x (by decide)], bAl (bAl (bAl (Below.refl _ _) _) _) _⟩
  · have E : Hid (ckA x pb vb = 1) := hide (by
      rw [unhide HC]
      rw [show (decide (AskOk x.ko.size x.len x.kc) && (decide (AskOk x.ko.size x.len x.n) && pb)) = false by
        cases h : (decide (AskOk x.ko.size x.len x.kc) && (decide (AskOk x.ko.size x.len x.n) && pb))
        · rfl
        · rw [Bool.and_eq_true, Bool.and_eq_true, decide_eq_true_eq, decide_eq_true_eq] at h; exact absurd h hA]
      rfl)
    clear HC hp hv hs
    have hA2 : ¬ (decide (AskOk x.ko.size x.len x.kc) = true ∧ decide (AskOk x.ko.size x.len x.n) = true ∧ pb = true) := by
      rw [decide_eq_true_eq, decide_eq_true_eq]; exact hA
    clear hA
    generalize decide (AskOk x.ko.size x.len x.kc) = d0 at *
    generalize decide (AskOk x.ko.size x.len x.n) = d1 at *
    have HA2 := hide hA2
    clear hA2
    cases d0 <;> cases d1 <;> cases pb
    all_goals first
      | exact absurd ⟨rfl, rfl, rfl⟩ (unhide HA2)
      | (go_enter Tryd.func12, Tryd.ntmps12
         go_wp2_with (first | (go_at_call 18; (first | with_reducible refine (unhide q0 _).mono ?_ | with_reducible refine (unhide q1 _).mono ?_); rintro e w' ⟨rfl, rfl⟩) | (go_at_call 26; refine (unhide q2 _).mono ?_; rintro e w' ⟨rfl, rfl⟩))
         exact bodyPost_ret (v := .tuple #[.agg #[.int .i64 0, .string ⟨#[]⟩, .int .i64 0], .int .i64 1]) (by simp [results, Tryd.results12, go_sem]) rfl ⟨by rw [unhide E, outA_not x (by decide)], bAl (bAl (bAl (Below.refl _ _) _) _) _⟩)
end Go.Proofs.YtpagfcdoedlnoaaDoor.D
