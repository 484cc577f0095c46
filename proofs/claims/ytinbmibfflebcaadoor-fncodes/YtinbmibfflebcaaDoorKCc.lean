/- CheckTimed on both sides. -/
import Derived.Test.YtinbmibfflebcaaDoorKCb
namespace Go.Proofs.YtinbmibfflebcaaDoor.D
set_option maxRecDepth 20000
open Go.RowKit

theorem fC_congr {P Q : Int → Bool} : ∀ (m : Nat) (f : Int), (∀ j, f ≤ j → j < f + m → P j = Q j) → fC P f m = fC Q f m
  | 0, _, _ => rfl
  | m + 1, f, h => by
    have h0 := h f (Int.le_refl _) (by omega)
    cases e : P f
    · rw [fC_no e, fC_no (by rw [← h0, e])]
      exact fC_congr m (f + 1) fun j h1 h2 => h j (by omega) (by omega)
    · rw [fC_yes e, fC_yes (by rw [← h0, e])]
theorem fC_none {P : Int → Bool} : ∀ (m : Nat) (f : Int), (∀ j, P j = false) → fC P f m = (0, false)
  | 0, _, _ => rfl
  | m + 1, f, h => by rw [fC_no (h f)]; exact fC_none m _ h
def tmB (s : List UInt8) (d : Int) (cl : List UInt8) (last k : Int) : Bool := decide (0 ≤ k ∧ last < k) && codeB s d cl k
theorem tmB_out {s : List UInt8} {d : Int} {cl : List UInt8} {last k : Int} (h : ¬ (0 ≤ k ∧ last < k)) : tmB s d cl last k = false := by unfold tmB; rw [decide_eq_false h]; rfl
theorem tmB_in {s : List UInt8} {d : Int} {cl : List UInt8} {last k : Int} (h : 0 ≤ k ∧ last < k) : tmB s d cl last k = codeB s d cl k := by unfold tmB; rw [decide_eq_true h]; rfl
/-- Both sides look among the same steps. -/
theorem tm_same (s : List UInt8) (d : Int) (cl : List UInt8) (last st : Int) (h0 : 0 ≤ st) (h1 : -1 ≤ last) :
    fC (tmB s d cl last) (st - 1) 3 = fC (codeB s d cl) (max (st - 1) (last + 1)) (st + 1 + 1 - max (st - 1) (last + 1)).toNat := by
  by_cases c1 : last + 1 ≤ st - 1
  · rw [show max (st - 1) (last + 1) = st - 1 by omega, show (st + 1 + 1 - (st - 1)).toNat = 3 by omega]
    exact fC_congr 3 _ fun j h1 h2 => tmB_in ⟨by omega, by omega⟩
  rw [fC_no (tmB_out (by omega)), show max (st - 1) (last + 1) = last + 1 by omega, show st - 1 + 1 = st by omega]
  by_cases c2 : last + 1 = st
  · rw [c2, show (st + 1 + 1 - st).toNat = 2 by omega]
    exact fC_congr 2 _ fun j h1 h2 => tmB_in ⟨by omega, by omega⟩
  rw [fC_no (tmB_out (by omega))]
  by_cases c3 : last + 1 = st + 1
  · rw [c3, show (st + 1 + 1 - (st + 1)).toNat = 1 by omega]
    exact fC_congr 1 _ fun j h1 h2 => tmB_in ⟨by omega, by omega⟩
  rw [fC_no (tmB_out (by omega)), show (st + 1 + 1 - (last + 1)).toNat = 0 by omega]
  rfl
/-- A secret and digits as they must be. -/
def SecOk (s : List UInt8) (d : Int) : Prop := (1 ≤ s.length ∧ s.length ≤ 64) ∧ 4 ≤ d ∧ d ≤ 8
def OkT (s : List UInt8) (t last d : Int) : Prop := SecOk s d ∧ (0 ≤ t ∧ t ≤ 100000000000) ∧ -1 ≤ last ∧ last ≤ 100000000000
instance (s : List UInt8) (t last d : Int) : Decidable (OkT s t last d) := by unfold OkT SecOk; exact inferInstance
instance (s : List UInt8) (d : Int) : Decidable (SecOk s d) := by unfold SecOk; exact inferInstance
def ckT (s : List UInt8) (t last d : Int) (cl : List UInt8) : Int × Bool := if OkT s t last d then fC (tmB s d cl last) (t / 30 - 1) 3 else (0, false)
theorem ckT_no {s : List UInt8} {t last d : Int} {cl : List UInt8} (h : ¬ OkT s t last d) : ckT s t last d cl = (0, false) := if_neg h
theorem ckT_yes {s : List UInt8} {t last d : Int} {cl : List UInt8} (h : OkT s t last d) : ckT s t last d cl = fC (tmB s d cl last) (t / 30 - 1) 3 := if_pos h
theorem codeB_bad {s : List UInt8} {d : Int} {cl : List UInt8} (h : ¬ SecOk s d) (k : Int) : codeB s d cl k = false :=
  codeB_nil (codeD_no (fun q => h ⟨q.1, q.2.2⟩))

set_option maxHeartbeats 2000000 in
theorem iCheckTimed_any (a : Option Addr) (len cap : Nat) (s : List UInt8) (t last d : Int) (cl : List UInt8) (w : World) (hl : len ≤ 1048576) (hs : SlB w w.heap.size a len s) (hM : Mults w) (hT : Tab w) :
    Calls Tryd.prog 9 #[.slice a len cap, .int .i64 t, .int .i64 last, .int .i64 d, .string ⟨cl.toArray⟩] w fun e w' => e = .returned (.tuple #[.int .i64 (ckT s t last d cl).1, .bool (ckT s t last d cl).2]) ∧ Below w.heap.size w w' := by
  have q0 := hide (between_any 0 t 100000000000)
  have q1 := hide (between_any (-1) last 100000000000)
  by_cases hD : 0 ≤ t ∧ t ≤ 100000000000
  · rw [decide_eq_true hD] at q0
    by_cases hE : -1 ≤ last ∧ last ≤ 100000000000
    · rw [decide_eq_true hE] at q1
      obtain ⟨st, hst⟩ : ∃ st, t / 30 = st := ⟨_, rfl⟩
      obtain ⟨f, hf⟩ : ∃ f, max (st - 1) (last + 1) = f := ⟨_, rfl⟩
      have hst0 : 0 ≤ st := by omega
      have hst1 : st ≤ 3333333334 := by omega
      have hf0 : -10 ≤ f := by omega
      have hf1 : f ≤ 200000000000 := by omega
      have E : Hid (ckT s t last d cl = fC (codeB s d cl) f (st + 1 + 1 - f).toNat) := hide (by
        by_cases hS : SecOk s d
        · rw [ckT_yes ⟨hS, hD, hE⟩, hst, ← hf]; exact tm_same s d cl last st hst0 hE.1
        · rw [ckT_no (fun h => hS h.1), fC_none _ _ (codeB_bad hS)])
      have q2 := hide (firstWithCode_any a len cap s f (st + 1) (st + 1 + 1 - f).toNat d cl w hl hf0 (by omega) (by omega) rfl hs hM hT)
      rw [← unhide E] at q2
      have e1 : t.tdiv 30 = st := by rw [Int.tdiv_eq_ediv_of_nonneg hD.1]; exact hst
      obtain ⟨d0, d1⟩ := hD
      obtain ⟨l0, l1⟩ := hE
      clear hs hM hT E
      generalize ckT s t last d cl = R at q2
      go_enter Tryd.func9, Tryd.ntmps9
      go_wp2_with (first | (go_at_call 17; (first | with_reducible refine (unhide q0 _).mono ?_ | with_reducible refine (unhide q1 _).mono ?_); rintro e w' ⟨rfl, rfl⟩) | (go_at_call 18; refine (unhide q2).mono ?_; rintro e w' ⟨rfl, hb⟩))
      exact bodyPost_ret (v := .tuple #[.int .i64 R.1, .bool R.2]) (by simp [results, Tryd.results9, go_sem]) rfl ⟨rfl, hb⟩
    · rw [decide_eq_false hE] at q1
      have E := hide (ckT_no (s := s) (t := t) (last := last) (d := d) (cl := cl) (fun h => hE h.2.2))
      clear hs hM hT hD hE
      go_enter Tryd.func9, Tryd.ntmps9
      go_wp2_with (go_at_call 17; (first | with_reducible refine (unhide q0 _).mono ?_ | with_reducible refine (unhide q1 _).mono ?_); rintro e w' ⟨rfl, rfl⟩)
      exact bodyPost_ret (v := .tuple #[.int .i64 0, .bool false]) (by simp [results, Tryd.results9, go_sem]) rfl ⟨by rw [unhide E], Below.refl _ _⟩
  · rw [decide_eq_false hD] at q0
    have E := hide (ckT_no (s := s) (t := t) (last := last) (d := d) (cl := cl) (fun h => hD h.2.1))
    clear hs hM hT hD q1
    go_enter Tryd.func9, Tryd.ntmps9
    go_wp2_with (go_at_call 17; refine (unhide q0 _).mono ?_; rintro e w' ⟨rfl, rfl⟩)
    exact bodyPost_ret (v := .tuple #[.int .i64 0, .bool false]) (by simp [results, Tryd.results9, go_sem]) rfl ⟨by rw [unhide E], Below.refl _ _⟩
theorem codeB_pad {s : List UInt8} {d k : Nat} {cl : List UInt8} (h : CodeOk s k d) : codeB s d cl k = decide (pad (codeN s k) d = cl) := by
  unfold codeB
  rw [codeD_yes h, Bool.eq_iff_iff, decide_eq_true_eq, decide_eq_true_eq]
  have h4 := h.2.2.1
  have : pad (codeN s k) d ≠ [] := fun e => by have := pad_len (codeN s k) d; rw [e] at this; simp at this; omega
  exact ⟨fun q => q.2, fun q => ⟨this, q⟩⟩
set_option maxHeartbeats 2000000 in
theorem sCheckTimed_any (a : Option Addr) (len cap : Nat) (s : List UInt8) (t last d : Int) (cl : List UInt8) (w : World) (hl : len ≤ 1048576) (hs : SlB w w.heap.size a len s) :
    Calls Tryd.prog 10 #[.slice a len cap, .int .i64 t, .int .i64 last, .int .i64 d, .string ⟨cl.toArray⟩] w fun e w' => e = .returned (.tuple #[.int .i64 (ckT s t last d cl).1, .bool (ckT s t last d cl).2]) ∧ Below w.heap.size w w' := by
  have q0 := hide (l16Secret_any a len cap d w)
  have el := hs.1
  by_cases hD : ((1 : Int) ≤ len ∧ (len : Int) ≤ 64) ∧ 4 ≤ d ∧ d ≤ 8
  · rw [decide_eq_true hD] at q0
    by_cases hn : t < 0 ∨ 100000000000 < t ∨ last < -1 ∨ 100000000000 < last
    · have E := hide (ckT_no (s := s) (t := t) (last := last) (d := d) (cl := cl) (by unfold OkT; omega))
      clear hs el hD
      go_enter Tryd.func10, Tryd.ntmps10
      go_wp2_with (go_at_call 19; refine (unhide q0).mono ?_; rintro e w' ⟨rfl, rfl⟩)
      all_goals exact bodyPost_ret (v := .tuple #[.int .i64 0, .bool false]) (by simp [results, Tryd.results10, go_sem]) rfl ⟨by rw [unhide E], Below.refl _ _⟩
    have O : SecOk s d := by unfold SecOk; omega
    have E := hide (ckT_yes (s := s) (t := t) (last := last) (d := d) (cl := cl) ⟨O, by omega, by omega⟩)
    obtain ⟨dn, rfl⟩ := Int.eq_ofNat_of_zero_le (show 0 ≤ d by omega)
    obtain ⟨st, hst⟩ : ∃ st, t / 30 = st := ⟨_, rfl⟩
    have hst0 : 0 ≤ st := by omega
    have hst1 : st ≤ 3333333334 := by omega
    have hd8 : dn ≤ 8 := by omega
    rw [hst] at E
    have HS := hide hs
    have HO := hide O
    clear hs el hD O
    go_enter Tryd.func10, Tryd.ntmps10
    go_wp2_with (go_at_call 19; refine (unhide q0).mono ?_; rintro e w' ⟨rfl, rfl⟩)
    rw [hst]
    go_loopw [12] (fun i w' => ∃ (k : Int) (n : Nat), i = .int .i64 k ∧ k + n = st + 2 ∧ st - 1 ≤ k ∧ Hid (fC (tmB s dn cl last) (st - 1) 3 = fC (tmB s dn cl last) k n) ∧ Hid (Below w.heap.size w w')) (fun i _ => (st + 2 - intOf i).toNat)
    case atStart => exact ⟨st - 1, 3, rfl, by omega, by omega, hide rfl, hide (Below.refl _ _)⟩
    case round =>
      obtain ⟨k, n, rfl, hkn, hfk, hF, hB⟩ := hrel
      by_cases hlt : k ≤ st + 1
      · obtain ⟨n', rfl⟩ : ∃ n', n = n' + 1 := ⟨n - 1, by omega⟩
        by_cases hk : 0 ≤ k ∧ last < k
        · have hB1 := hide (tmB_in (s := s) (d := dn) (cl := cl) hk)
          obtain ⟨k0, k1⟩ := hk
          obtain ⟨kn, rfl⟩ := Int.eq_ofNat_of_zero_le k0
          have q := hide (l16Code_any a len cap s kn dn wr hl (by omega) hd8 (((unhide HS).keepB (unhide hB)).mono (unhide hB).size))
          have hP := hide ((unhide hB1).trans (codeB_pad (s := s) (d := dn) (k := kn) (cl := cl) ⟨(unhide HO).1, by omega, (unhide HO).2⟩))
          clear hB1
          generalize pad (codeN s kn) dn = C at q hP
          by_cases hE : C = cl
          · have e0 := hide ((unhide E).trans ((unhide hF).trans (fC_yes (by rw [unhide hP]; simp [hE]))))
            subst hE
            go_wp2_with (go_at_call 13; refine (unhide q).mono ?_; rintro e w2 ⟨rfl, hb2⟩)
            exact bodyPost_ret (v := .tuple #[.int .i64 kn, .bool true]) (by simp [results, Tryd.results10, go_sem]) rfl ⟨by rw [unhide e0], bTr (unhide hB) hb2⟩
          · have e0 := hide ((unhide hF).trans (fC_no (by rw [unhide hP]; simp [hE])))
            have f2 : (C == cl) = false := by simpa using hE
            go_wp2_with (go_at_call 13; refine (unhide q).mono ?_; rintro e w2 ⟨rfl, hb2⟩)
            exact ⟨⟨(kn : Int) + 1, n', rfl, by omega, by omega, e0, hide (bTr (unhide hB) hb2)⟩, by simp [intOf]; omega⟩
        · have e0 := hide ((unhide hF).trans (fC_no (tmB_out (s := s) (d := dn) (cl := cl) hk)))
          by_cases k0 : 0 ≤ k
          · have k1 : ¬ last < k := fun h => hk ⟨k0, h⟩
            clear hk
            go_wp2_with fail
            exact ⟨⟨k + 1, n', rfl, by omega, by omega, e0, hB⟩, by simp [intOf]; omega⟩
          · clear hk
            go_wp2_with fail
            exact ⟨⟨k + 1, n', rfl, by omega, by omega, e0, hB⟩, by simp [intOf]; omega⟩
      · obtain rfl : n = 0 := by omega
        go_wp2_with fail
        exact bodyPost_ret (v := .tuple #[.int .i64 0, .bool false]) (by simp [results, Tryd.results10, go_sem]) rfl ⟨by rw [unhide E, unhide hF]; rfl, unhide hB⟩
  · rw [decide_eq_false hD] at q0
    have E := hide (ckT_no (s := s) (t := t) (last := last) (d := d) (cl := cl) (by unfold OkT SecOk; omega))
    clear hs el hD
    go_enter Tryd.func10, Tryd.ntmps10
    go_wp2_with (go_at_call 19; refine (unhide q0).mono ?_; rintro e w' ⟨rfl, rfl⟩)
    exact bodyPost_ret (v := .tuple #[.int .i64 0, .bool false]) (by simp [results, Tryd.results10, go_sem]) rfl ⟨by rw [unhide E], Below.refl _ _⟩
end Go.Proofs.YtinbmibfflebcaaDoor.D
