/- CheckCode and CheckTimed on both sides. -/
import Derived.Test.YtinbmibfflebcaaDoorKCa
namespace Go.Proofs.YtinbmibfflebcaaDoor.D
set_option maxRecDepth 20000
open Go.RowKit

/-- The first of m numbers from f on for which P says yes. -/
def fC (P : Int → Bool) (f : Int) : Nat → Int × Bool
  | 0 => (0, false)
  | m + 1 => if P f = true then (f, true) else fC P (f + 1) m
def codeB (s : List UInt8) (d : Int) (cl : List UInt8) (k : Int) : Bool := decide (codeD s k d ≠ [] ∧ codeD s k d = cl)
theorem codeB_nil {s : List UInt8} {d : Int} {cl : List UInt8} {k : Int} (h : codeD s k d = []) : codeB s d cl k = false := by simp [codeB, h]
theorem codeB_ne {s : List UInt8} {d : Int} {cl : List UInt8} {k : Int} (h : ¬ codeD s k d = cl) : codeB s d cl k = false := by simp [codeB, h]
theorem codeB_yes {s : List UInt8} {d : Int} {cl : List UInt8} {k : Int} (h : ¬ codeD s k d = []) (h2 : codeD s k d = cl) : codeB s d cl k = true := by simp only [codeB, decide_eq_true_eq]; exact ⟨h, h2⟩
theorem fC_no {P : Int → Bool} {f : Int} {m : Nat} (h : P f = false) : fC P f (m + 1) = fC P (f + 1) m := by simp [fC, h]
theorem fC_yes {P : Int → Bool} {f : Int} {m : Nat} (h : P f = true) : fC P f (m + 1) = (f, true) := by simp [fC, h]
theorem fC_ok (P : Int → Bool) : ∀ (m : Nat) (f : Int), (fC P f m = (0, false)) ∨ ∃ k, f ≤ k ∧ k < f + m ∧ fC P f m = (k, true)
  | 0, f => .inl rfl
  | m + 1, f => by
    cases h : P f
    · rw [fC_no h]
      rcases fC_ok P m (f + 1) with e | ⟨k, h1, h2, e⟩
      · exact .inl e
      · exact .inr ⟨k, by omega, by omega, e⟩
    · exact .inr ⟨f, by omega, by omega, fC_yes h⟩
theorem string_toList (c : ByteArray) : c = ⟨c.data.toList.toArray⟩ := by cases c; simp

set_option maxHeartbeats 2000000 in
theorem firstWithCode_any (a : Option Addr) (len cap : Nat) (s : List UInt8) (f t : Int) (m : Nat) (d : Int) (cl : List UInt8) (w : World) (hl : len ≤ 1048576) (h0 : -10 ≤ f) (h1 : t ≤ 2000000000000) (h2 : f ≤ 2000000000000) (hm : m = (t + 1 - f).toNat) (hs : SlB w w.heap.size a len s) (hM : Mults w) (hT : Tab w) :
    Calls Tryd.prog 18 #[.slice a len cap, .int .i64 f, .int .i64 t, .int .i64 d, .string ⟨cl.toArray⟩] w fun e w' => e = .returned (.tuple #[.int .i64 (fC (codeB s d cl) f m).1, .bool (fC (codeB s d cl) f m).2]) ∧ Below w.heap.size w w' := by
  have HS := hide hs
  have HM := hide hM
  have HT := hide hT
  have h00 := hM.1
  have HM1 := hide hm
  clear hs hM hT hm
  go_enter Tryd.func18, Tryd.ntmps18
  go_wp2_with fail
  go_loopw [12] (fun i w' => ∃ (k : Int) (n : Nat), i = .int .i64 k ∧ n = (t + 1 - k).toNat ∧ f ≤ k ∧ k ≤ 2000000000001 ∧ Hid (fC (codeB s d cl) f m = fC (codeB s d cl) k n) ∧ Hid (Below w.heap.size w w')) (fun i _ => (t + 1 - intOf i).toNat)
  case atStart => exact ⟨f, m, rfl, unhide HM1, by omega, by omega, hide rfl, hide (Below.refl _ _)⟩
  case round =>
    obtain ⟨k, n, rfl, hkn, hfk, hfk2, hF, hB⟩ := hrel
    by_cases hlt : k ≤ t
    · obtain ⟨n', rfl⟩ : ∃ n', n = n' + 1 := ⟨n - 1, by omega⟩
      have q := hide (iCodeOf_any a len cap s k d wr hl (((unhide HS).keepB (unhide hB)).mono (unhide hB).size) ((unhide HM).keepB (unhide hB) h00) (Tab.keep (unhide HT) (unhide hB)))
      have hP := hide (show codeB s d cl k = decide (codeD s k d ≠ [] ∧ codeD s k d = cl) from rfl)
      generalize codeD s k d = C at q hP
      by_cases hC : C = []
      · have e0 := hide ((unhide hF).trans (fC_no (by rw [unhide hP, hC]; simp)))
        subst hC
        go_wp2_with fail
        refine (unhide q).mono ?_
        rintro e w2 ⟨rfl, hb2⟩
        have B2 := hide (bTr (unhide hB) hb2)
        clear hb2 q
        go_wp2_with fail
        exact ⟨⟨k + 1, n', rfl, by omega, by omega, by omega, e0, B2⟩, by simp [intOf]; omega⟩
      by_cases hE : C = cl
      · have e0 := hide ((unhide hF).trans (fC_yes (by rw [unhide hP]; simp [hE]; rw [← hE]; exact hC)))
        subst hE
        have f1 : (C == []) = false := by simpa using hC
        go_wp2_with fail
        refine (unhide q).mono ?_
        rintro e w2 ⟨rfl, hb2⟩
        have B2 := hide (bTr (unhide hB) hb2)
        clear hb2 q
        go_wp2_with fail
        exact bodyPost_ret (v := .tuple #[.int .i64 k, .bool true]) (by simp [results, Tryd.results18, go_sem]) rfl ⟨by rw [unhide e0], unhide B2⟩
      · have e0 := hide ((unhide hF).trans (fC_no (by rw [unhide hP]; simp [hE])))
        have f1 : (C == []) = false := by simpa using hC
        have f2 : (C == cl) = false := by simpa using hE
        go_wp2_with fail
        refine (unhide q).mono ?_
        rintro e w2 ⟨rfl, hb2⟩
        have B2 := hide (bTr (unhide hB) hb2)
        clear hb2 q
        go_wp2_with fail
        exact ⟨⟨k + 1, n', rfl, by omega, by omega, by omega, e0, B2⟩, by simp [intOf]; omega⟩
    · obtain rfl : n = 0 := by omega
      go_wp2_with fail
      exact bodyPost_ret (v := .tuple #[.int .i64 0, .bool false]) (by simp [results, Tryd.results18, go_sem]) rfl ⟨by rw [unhide hF]; rfl, unhide hB⟩

/-- What CheckCode tells. -/
def OkC (s : List UInt8) (c wn d : Int) : Prop := CodeOk s c d ∧ 0 ≤ wn ∧ wn ≤ 50
instance (s : List UInt8) (c wn d : Int) : Decidable (OkC s c wn d) := by unfold OkC; exact inferInstance
def ckC (s : List UInt8) (c wn d : Int) (cl : List UInt8) : Int × Bool :=
  if OkC s c wn d then (if (fC (codeB s d cl) c (wn.toNat + 1)).2 = true then ((fC (codeB s d cl) c (wn.toNat + 1)).1 + 1, true) else (0, false)) else (0, false)
theorem ckC_no {s : List UInt8} {c wn d : Int} {cl : List UInt8} (h : ¬ OkC s c wn d) : ckC s c wn d cl = (0, false) := if_neg h
theorem ckC_yes {s : List UInt8} {c wn d : Int} {cl : List UInt8} {k : Int} (h : OkC s c wn d) (e : fC (codeB s d cl) c (wn.toNat + 1) = (k, true)) : ckC s c wn d cl = (k + 1, true) := by unfold ckC; rw [if_pos h, e]; rfl
theorem ckC_none {s : List UInt8} {c wn d : Int} {cl : List UInt8} (h : OkC s c wn d) (e : fC (codeB s d cl) c (wn.toNat + 1) = (0, false)) : ckC s c wn d cl = (0, false) := by unfold ckC; rw [if_pos h, e]; rfl
set_option maxHeartbeats 2000000 in
theorem sCheckCode_any (a : Option Addr) (len cap : Nat) (s : List UInt8) (c wn d : Int) (cl : List UInt8) (w : World) (hl : len ≤ 1048576) (hs : SlB w w.heap.size a len s) :
    Calls Tryd.prog 6 #[.slice a len cap, .int .i64 c, .int .i64 wn, .int .i64 d, .string ⟨cl.toArray⟩] w fun e w' => e = .returned (.tuple #[.int .i64 (ckC s c wn d cl).1, .bool (ckC s c wn d cl).2]) ∧ Below w.heap.size w w' := by
  have q0 := hide (l16Secret_any a len cap d w)
  have el := hs.1
  by_cases hD : ((1 : Int) ≤ len ∧ (len : Int) ≤ 64) ∧ 4 ≤ d ∧ d ≤ 8
  · rw [decide_eq_true hD] at q0
    by_cases hn : c < 0 ∨ 1000000000000 < c ∨ wn < 0 ∨ 50 < wn
    · have E := hide (ckC_no (s := s) (c := c) (wn := wn) (d := d) (cl := cl) (by unfold OkC CodeOk; omega))
      clear hs el hD
      go_enter Tryd.func6, Tryd.ntmps6
      go_wp2_with (go_at_call 19; refine (unhide q0).mono ?_; rintro e w' ⟨rfl, rfl⟩)
      all_goals exact bodyPost_ret (v := .tuple #[.int .i64 0, .bool false]) (by simp [results, Tryd.results6, go_sem]) rfl ⟨by rw [unhide E], Below.refl _ _⟩
    have O := hide (show OkC s c wn d by unfold OkC CodeOk; omega)
    have HS := hide hs
    obtain ⟨t, ht⟩ : ∃ t, c + wn = t := ⟨_, rfl⟩
    obtain ⟨m, hm⟩ : ∃ m, wn.toNat + 1 = m := ⟨_, rfl⟩
    have hmt : m = (t + 1 - c).toNat := by omega
    have h1 : t ≤ 2000000000000 := by omega
    have HM' := hide hm
    clear hs el hD hm
    go_enter Tryd.func6, Tryd.ntmps6
    go_wp2_with (go_at_call 19; refine (unhide q0).mono ?_; rintro e w' ⟨rfl, rfl⟩)
    go_loopw [12] (fun i w' => ∃ (k : Int) (n : Nat), i = .int .i64 k ∧ n = (t + 1 - k).toNat ∧ c ≤ k ∧ k ≤ 2000000000001 ∧ Hid (fC (codeB s d cl) c m = fC (codeB s d cl) k n) ∧ Hid (Below w.heap.size w w')) (fun i _ => (t + 1 - intOf i).toNat)
    case atStart => exact ⟨c, m, rfl, by omega, by omega, by omega, hide rfl, hide (Below.refl _ _)⟩
    case round =>
      obtain ⟨k, n, rfl, hkn, hfk, hfk2, hF, hB⟩ := hrel
      by_cases hlt : k ≤ t
      · obtain ⟨n', rfl⟩ : ∃ n', n = n' + 1 := ⟨n - 1, by omega⟩
        have q := hide (sCodeOf_any a len cap s k d wr hl (((unhide HS).keepB (unhide hB)).mono (unhide hB).size))
        have hP := hide (show codeB s d cl k = decide (codeD s k d ≠ [] ∧ codeD s k d = cl) from rfl)
        generalize codeD s k d = C at q hP
        by_cases hC : C = []
        · have e0 := hide ((unhide hF).trans (fC_no (by rw [unhide hP, hC]; simp)))
          subst hC
          go_wp2_with fail
          refine (unhide q).mono ?_
          rintro e w2 ⟨rfl, hb2⟩
          have B2 := hide (bTr (unhide hB) hb2)
          clear hb2 q
          go_wp2_with fail
          exact ⟨⟨k + 1, n', rfl, by omega, by omega, by omega, e0, B2⟩, by simp [intOf]; omega⟩
        by_cases hE : C = cl
        · have e0 := hide ((unhide hF).trans (fC_yes (by rw [unhide hP]; simp [hE]; rw [← hE]; exact hC)))
          subst hE
          have f1 : (C == []) = false := by simpa using hC
          go_wp2_with fail
          refine (unhide q).mono ?_
          rintro e w2 ⟨rfl, hb2⟩
          have B2 := hide (bTr (unhide hB) hb2)
          clear hb2 q
          go_wp2_with fail
          exact bodyPost_ret (v := .tuple #[.int .i64 (k + 1), .bool true]) (by simp [results, Tryd.results6, go_sem]) rfl ⟨by rw [ckC_yes (unhide O) (by rw [unhide HM']; exact unhide e0)], unhide B2⟩
        · have e0 := hide ((unhide hF).trans (fC_no (by rw [unhide hP]; simp [hE])))
          have f1 : (C == []) = false := by simpa using hC
          have f2 : (C == cl) = false := by simpa using hE
          go_wp2_with fail
          refine (unhide q).mono ?_
          rintro e w2 ⟨rfl, hb2⟩
          have B2 := hide (bTr (unhide hB) hb2)
          clear hb2 q
          go_wp2_with fail
          exact ⟨⟨k + 1, n', rfl, by omega, by omega, by omega, e0, B2⟩, by simp [intOf]; omega⟩
      · obtain rfl : n = 0 := by omega
        go_wp2_with fail
        exact bodyPost_ret (v := .tuple #[.int .i64 0, .bool false]) (by simp [results, Tryd.results6, go_sem]) rfl ⟨by rw [ckC_none (unhide O) (by rw [unhide HM']; exact unhide hF)], unhide hB⟩

  · rw [decide_eq_false hD] at q0
    have E := hide (ckC_no (s := s) (c := c) (wn := wn) (d := d) (cl := cl) (by unfold OkC CodeOk; omega))
    clear hs el hD
    go_enter Tryd.func6, Tryd.ntmps6
    go_wp2_with (go_at_call 19; refine (unhide q0).mono ?_; rintro e w' ⟨rfl, rfl⟩)
    exact bodyPost_ret (v := .tuple #[.int .i64 0, .bool false]) (by simp [results, Tryd.results6, go_sem]) rfl ⟨by rw [unhide E], Below.refl _ _⟩
set_option maxHeartbeats 2000000 in
theorem iCheckCode_any (a : Option Addr) (len cap : Nat) (s : List UInt8) (c wn d : Int) (cl : List UInt8) (w : World) (hl : len ≤ 1048576) (hs : SlB w w.heap.size a len s) (hM : Mults w) (hT : Tab w) :
    Calls Tryd.prog 5 #[.slice a len cap, .int .i64 c, .int .i64 wn, .int .i64 d, .string ⟨cl.toArray⟩] w fun e w' => e = .returned (.tuple #[.int .i64 (ckC s c wn d cl).1, .bool (ckC s c wn d cl).2]) ∧ Below w.heap.size w w' := by
  have q0 := hide (goodCodes_any a len cap s c d w hs.1)
  have q1 := hide (between_any 0 wn 50)
  by_cases hG : CodeOk s c d
  · rw [decide_eq_true hG] at q0
    by_cases hW : 0 ≤ wn ∧ wn ≤ 50
    · rw [decide_eq_true hW] at q1
      have O := hide (show OkC s c wn d from ⟨hG, hW⟩)
      obtain ⟨-, ⟨g3, g4⟩, -⟩ := hG
      obtain ⟨w0, w50⟩ := hW
      obtain ⟨t, ht⟩ : ∃ t, c + wn = t := ⟨_, rfl⟩
      have q2 := hide (firstWithCode_any a len cap s c t (wn.toNat + 1) d cl w hl (by omega) (by omega) (by omega) (by omega) hs hM hT)
      rcases fC_ok (codeB s d cl) (wn.toNat + 1) c with e0 | ⟨k, hk1, hk2, e0⟩
      · have E := hide (ckC_none (unhide O) e0)
        rw [e0] at q2
        clear hs hM hT e0
        go_enter Tryd.func5, Tryd.ntmps5
        go_wp2_with (first | (go_at_call 16; refine (unhide q0).mono ?_; rintro e w' ⟨rfl, rfl⟩) | (go_at_call 17; refine (unhide q1 _).mono ?_; rintro e w' ⟨rfl, rfl⟩) | (go_at_call 18; refine (unhide q2).mono ?_; rintro e w' ⟨rfl, hb⟩))
        exact bodyPost_ret (v := .tuple #[.int .i64 0, .bool false]) (by simp [results, Tryd.results5, go_sem]) rfl ⟨by rw [unhide E], hb⟩
      · have E := hide (ckC_yes (unhide O) e0)
        rw [e0] at q2
        have hk9 : k ≤ 2000000000000 := by omega
        clear hs hM hT e0 hk2
        go_enter Tryd.func5, Tryd.ntmps5
        go_wp2_with (first | (go_at_call 16; refine (unhide q0).mono ?_; rintro e w' ⟨rfl, rfl⟩) | (go_at_call 17; refine (unhide q1 _).mono ?_; rintro e w' ⟨rfl, rfl⟩) | (go_at_call 18; refine (unhide q2).mono ?_; rintro e w' ⟨rfl, hb⟩))
        exact bodyPost_ret (v := .tuple #[.int .i64 (k + 1), .bool true]) (by simp [results, Tryd.results5, go_sem]) rfl ⟨by rw [unhide E], hb⟩
    · rw [decide_eq_false hW] at q1
      have E := hide (ckC_no (s := s) (c := c) (wn := wn) (d := d) (cl := cl) (fun h => hW h.2))
      clear hs hG hW hM hT
      go_enter Tryd.func5, Tryd.ntmps5
      go_wp2_with (first | (go_at_call 16; refine (unhide q0).mono ?_; rintro e w' ⟨rfl, rfl⟩) | (go_at_call 17; refine (unhide q1 _).mono ?_; rintro e w' ⟨rfl, rfl⟩))
      exact bodyPost_ret (v := .tuple #[.int .i64 0, .bool false]) (by simp [results, Tryd.results5, go_sem]) rfl ⟨by rw [unhide E], Below.refl _ _⟩
  · rw [decide_eq_false hG] at q0
    have E := hide (ckC_no (s := s) (c := c) (wn := wn) (d := d) (cl := cl) (fun h => hG h.1))
    clear hs hG hM hT q1
    go_enter Tryd.func5, Tryd.ntmps5
    go_wp2_with (go_at_call 16; refine (unhide q0).mono ?_; rintro e w' ⟨rfl, rfl⟩)
    exact bodyPost_ret (v := .tuple #[.int .i64 0, .bool false]) (by simp [results, Tryd.results5, go_sem]) rfl ⟨by rw [unhide E], Below.refl _ _⟩
end Go.Proofs.YtinbmibfflebcaaDoor.D
