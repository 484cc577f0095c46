/- CheckAnswer: the program's rules. -/
import Derived.Test.YtlgloffdinnpfaaDoorKAa
import Derived.Deep.RegionHeld3
namespace Go.Proofs.YtlgloffdinnpfaaDoor.D
set_option maxRecDepth 20000
open Go.RowKit
/-- An answer that is shown: its eight cells. -/
structure ShT where
  o : ByteArray
  n : Int
  r : Int
  z : Int
  P : Int
  ko : ByteArray
  kc : Int
  a : Option Addr
  len : Nat
  cap : Nat
def ShT.v (x : ShT) : Value := .agg #[.string x.o, .int .i64 x.n, .int .i64 x.r, .int .i64 x.z, .int .i64 x.P, .string x.ko, .int .i64 x.kc, .slice x.a x.len x.cap]
def ShT.c (x : ShT) : Array Value := #[.string x.o, .int .i64 x.n, .int .i64 x.r, .int .i64 x.z, .int .i64 x.P, .string x.ko, .int .i64 x.kc, .slice x.a x.len x.cap]
theorem pub_b (p : Int) : ∃ b, PubIs p b := ⟨_, { of := rfl }⟩
theorem iPublic_b {p : Int} {b : Bool} (h : PubIs p b) (w : World) : Calls Tryd.prog 45 #[.int .i64 p] w fun e w' => e = .returned (.bool b) ∧ w = w' :=
  (iPublic_any p w).mono fun _ _ ⟨⟨_, h1, h2⟩, h3⟩ => ⟨by rw [h2, h1.one h], h3⟩
/-- Whether it is not as said. -/
def unf (x : ShT) (pb : Bool) : Bool := !(pb && (decide (AskOk x.ko.size x.len x.kc) && decide (0 ≤ x.n ∧ x.n ≤ 1000000000)))
set_option maxHeartbeats 4000000 in
theorem unfit_any (x : ShT) (pb : Bool) (w : World) (hp : PubIs x.P pb) :
    Calls Tryd.prog 25 #[x.v] w fun e w' => e = .returned (.bool (unf x pb)) ∧ Below w.heap.size w w' := by
  have q0 := hide (fun w => iPublic_b hp w)
  have q1 := hide (goodAnswering_any x.ko x.a x.len x.cap x.kc)
  have q2 := hide (between_any 0 x.n 1000000000)
  clear hp
  unfold unf ShT.v
  generalize decide (AskOk x.ko.size x.len x.kc) = d1 at *
  generalize decide (0 ≤ x.n ∧ x.n ≤ 1000000000) = d2 at *
  cases pb <;> cases d1 <;> cases d2
  all_goals
    go_enter Tryd.func25, Tryd.ntmps25
    go_wp2_with (first | (go_at_call 45; refine (unhide q0 _).mono ?_; rintro e w' ⟨rfl, rfl⟩) | (go_at_call 16; refine (unhide q1 _).mono ?_; rintro e w' ⟨rfl, rfl⟩) | (go_at_call 30; refine (unhide q2 _).mono ?_; rintro e w' ⟨rfl, rfl⟩))
    go_ret
    exact ⟨by first | rfl | simp, bAl (Below.refl _ _) _⟩
def oth (x : ShT) : Bool := !(decide (x.o = x.ko))
theorem other_any (x : ShT) (w : World) :
    Calls Tryd.prog 26 #[x.v] w fun e w' => e = .returned (.bool (oth x)) ∧ Below w.heap.size w w' := by
  unfold ShT.v oth
  by_cases h : x.o = x.ko
  · rw [decide_eq_true h, h]
    go_enter Tryd.func26, Tryd.ntmps26
    go_wp2_with fail
    go_ret
    exact ⟨by first | rfl | simp, bAl (Below.refl _ _) _⟩
  · rw [decide_eq_false h]
    have h4 : (x.o.toList == x.ko.toList) = false := by simpa [ByteArray.toList_eq] using fun e => h (ByteArray.ext (Array.toList_inj.1 (by simpa using e)))
    go_enter Tryd.func26, Tryd.ntmps26
    go_wp2_with fail
    go_ret
    exact ⟨by first | rfl | simp [h4], bAl (Below.refl _ _) _⟩
theorem used_any (x : ShT) (w : World) :
    Calls Tryd.prog 27 #[x.v] w fun e w' => e = .returned (.bool (decide (x.n ≤ x.kc))) ∧ Below w.heap.size w w' := by
  unfold ShT.v
  go_enter Tryd.func27, Tryd.ntmps27
  go_wp2_with fail
  go_ret
  exact ⟨rfl, bAl (Below.refl _ _) _⟩
theorem sixB {w' : World} {b T : Nat} {x0 x1 x2 x3 x4 x5 x6 x7 : Value} (h : RowIs w' b #[x0, x1, x2, x3, x4, x5, x6, x7] T) :
    w'.cell? ⟨b, 0, none⟩ = some x0 ∧ w'.cell? ⟨b, 1, none⟩ = some x1 ∧ w'.cell? ⟨b, 2, none⟩ = some x2 ∧ w'.cell? ⟨b, 3, none⟩ = some x3 ∧ w'.cell? ⟨b, 4, none⟩ = some x4 ∧ w'.cell? ⟨b, 7, none⟩ = some x7 :=
  ⟨h.at rfl, h.at rfl, h.at rfl, h.at rfl, h.at rfl, h.at rfl⟩
set_option maxHeartbeats 4000000 in
theorem forged_any (x : ShT) (nn : Nat) (c : List UInt8) (b : Bool) (w : World) (hn : x.n = nn) (ho : x.o.size ≤ 20000) (hl : x.len ≤ 20000) (hb : VerIs x.P (ansD x.o.data.toList c nn) x.r x.z b) (hs : SlB w w.heap.size x.a x.len c) (hM : Mults w) :
    Calls Tryd.prog 28 #[x.v] w fun e w' => e = .returned (.bool !b) ∧ Below w.heap.size w w' := by
  obtain ⟨o, n, r, z, P, ko, kc, a, len, cap⟩ := x
  simp only at hn ho hl hb hs
  subst hn
  unfold ShT.v
  simp only
  obtain ⟨W, hW⟩ : ∃ W, W = w.alloc (.cells #[.string o, .int .i64 (nn : Int), .int .i64 r, .int .i64 z, .int .i64 P, .string ko, .int .i64 kc, .slice a len cap] 51) := ⟨_, rfl⟩
  have B0 : Below w.heap.size w W := by rw [hW]; exact bAl (Below.refl _ _) _
  have HSW := hide ((hs.keep B0).mono B0.size)
  have HMW := hide (hM.keepB B0 hM.1)
  have HM := hide hM
  have h00 := hM.1
  have HB := hide B0
  have HV := hide hb
  have HW := hide hW.symm
  have RB := hide (show RowIs W w.heap.size #[.string o, .int .i64 (nn : Int), .int .i64 r, .int .i64 z, .int .i64 P, .string ko, .int .i64 kc, .slice a len cap] 51 by rw [hW]; exact RowIs.new _ _ _)
  clear hs hM hb hW B0
  go_enter Tryd.func28, Tryd.ntmps28
  go_wp2_with fail
  have D1 : Below W.heap.size W W.drew := (Below.refl _ _).drew
  have RC := hide ((unhide RB).keep D1)
  have B7 := hide (bTr (unhide HB) D1)
  replace HW := hide (unhide HW)
  rw [unhide HW]
  have qd' := hide (fun (W' : World) (hB : Below W.heap.size W W') => answerData_any o a len cap c nn W' ho hl (((unhide HSW).keep hB).mono hB.size) ((unhide HMW).keepB hB (unhide HMW).1))
  go_region_held3 (fun w' => w'.cell? ⟨w.heap.size, 0, none⟩ = some (.string o) ∧ w'.cell? ⟨w.heap.size, 1, none⟩ = some (.int .i64 (nn : Int)) ∧ w'.cell? ⟨w.heap.size, 2, none⟩ = some (.int .i64 r) ∧ w'.cell? ⟨w.heap.size, 3, none⟩ = some (.int .i64 z) ∧ w'.cell? ⟨w.heap.size, 4, none⟩ = some (.int .i64 P) ∧ w'.cell? ⟨w.heap.size, 7, none⟩ = some (.slice a len cap))
    (first
      | exact sixB (unhide RC)
      | exact sixB (unhide RB))
    (first
      | (go_at_call 18; refine (unhide qd' _ D1).mono ?_; rintro e w2 ⟨v, D, hD, rfl, ho2, hb2⟩; have lD := hide (show D.length = 36 by rw [unhide hD]; exact ansD_len _ _ _); obtain ⟨b2, c2, rfl, _, _, _, hs2⟩ := own_some ho2 (by rw [unhide lD]; decide); replace RC := hide ((unhide RC).keep hb2); replace B7 := hide (bTr (unhide B7) hb2); have S2 := hide hs2; clear ho2 hs2 hb2)
      | (go_at_call 46; have lDD := unhide lD; refine (iVerify_any P _ D.length c2 D r z _ (by rw [unhide lD]; decide) (unhide S2) ((unhide HM).keepB (unhide B7) h00)).mono ?_; rintro e w3 ⟨⟨bv, hbv, rfl⟩, hb3⟩; rw [unhide hD] at hbv; obtain rfl := hbv.one (unhide HV); replace RC := hide ((unhide RC).keep hb3); replace B7 := hide (bTr (unhide B7) hb3); clear hb3 hbv))
  go_wp2_with fail
  go_ret
  exact ⟨rfl, unhide B7⟩
/-- A function value of one of the rules. -/
def rulesV : Array Value := #[.func (Fn.func 25) #[] #[], .func (Fn.func 26) #[] #[], .func (Fn.func 27) #[] #[], .func (Fn.func 28) #[] #[]]
set_option maxHeartbeats 1000000 in
theorem fc_u (x : ShT) (b : Nat) (B : Bool) (w : World) (hr : RowIs w b x.c 51) (h : Calls Tryd.prog 25 #[x.v] w fun e w' => e = .returned (.bool B) ∧ Below w.heap.size w w') :
    Calls Tryd.prog 44 #[.func (Fn.func 25) #[] #[], .pointer (some ⟨b, 0, none⟩)] w fun e w' => e = .returned (.bool B) ∧ Below w.heap.size w w' := by
  unfold ShT.c at hr
  have c0 := hr.at (o := 0) rfl
  have c1 := hr.at (o := 1) rfl
  have c2 := hr.at (o := 2) rfl
  have c3 := hr.at (o := 3) rfl
  have c4 := hr.at (o := 4) rfl
  have c5 := hr.at (o := 5) rfl
  have c6 := hr.at (o := 6) rfl
  have c7 := hr.at (o := 7) rfl
  have H := hide h
  clear hr h
  unfold ShT.v at H
  go_enter Tryd.func44, Tryd.ntmps44
  go_wp2_with (go_at_call 25; refine (unhide H).mono ?_; rintro e w' ⟨rfl, hb⟩)
  go_ret
  exact ⟨rfl, hb⟩
set_option maxHeartbeats 1000000 in
theorem fc_t (x : ShT) (b : Nat) (B : Bool) (w : World) (hr : RowIs w b x.c 51) (h : Calls Tryd.prog 26 #[x.v] w fun e w' => e = .returned (.bool B) ∧ Below w.heap.size w w') :
    Calls Tryd.prog 44 #[.func (Fn.func 26) #[] #[], .pointer (some ⟨b, 0, none⟩)] w fun e w' => e = .returned (.bool B) ∧ Below w.heap.size w w' := by
  unfold ShT.c at hr
  have c0 := hr.at (o := 0) rfl
  have c1 := hr.at (o := 1) rfl
  have c2 := hr.at (o := 2) rfl
  have c3 := hr.at (o := 3) rfl
  have c4 := hr.at (o := 4) rfl
  have c5 := hr.at (o := 5) rfl
  have c6 := hr.at (o := 6) rfl
  have c7 := hr.at (o := 7) rfl
  have H := hide h
  clear hr h
  unfold ShT.v at H
  go_enter Tryd.func44, Tryd.ntmps44
  go_wp2_with (go_at_call 26; refine (unhide H).mono ?_; rintro e w' ⟨rfl, hb⟩)
  go_ret
  exact ⟨rfl, hb⟩
set_option maxHeartbeats 1000000 in
theorem fc_s (x : ShT) (b : Nat) (B : Bool) (w : World) (hr : RowIs w b x.c 51) (h : Calls Tryd.prog 27 #[x.v] w fun e w' => e = .returned (.bool B) ∧ Below w.heap.size w w') :
    Calls Tryd.prog 44 #[.func (Fn.func 27) #[] #[], .pointer (some ⟨b, 0, none⟩)] w fun e w' => e = .returned (.bool B) ∧ Below w.heap.size w w' := by
  unfold ShT.c at hr
  have c0 := hr.at (o := 0) rfl
  have c1 := hr.at (o := 1) rfl
  have c2 := hr.at (o := 2) rfl
  have c3 := hr.at (o := 3) rfl
  have c4 := hr.at (o := 4) rfl
  have c5 := hr.at (o := 5) rfl
  have c6 := hr.at (o := 6) rfl
  have c7 := hr.at (o := 7) rfl
  have H := hide h
  clear hr h
  unfold ShT.v at H
  go_enter Tryd.func44, Tryd.ntmps44
  go_wp2_with (go_at_call 27; refine (unhide H).mono ?_; rintro e w' ⟨rfl, hb⟩)
  go_ret
  exact ⟨rfl, hb⟩
set_option maxHeartbeats 1000000 in
theorem fc_f (x : ShT) (b : Nat) (B : Bool) (w : World) (hr : RowIs w b x.c 51) (h : Calls Tryd.prog 28 #[x.v] w fun e w' => e = .returned (.bool B) ∧ Below w.heap.size w w') :
    Calls Tryd.prog 44 #[.func (Fn.func 28) #[] #[], .pointer (some ⟨b, 0, none⟩)] w fun e w' => e = .returned (.bool B) ∧ Below w.heap.size w w' := by
  unfold ShT.c at hr
  have c0 := hr.at (o := 0) rfl
  have c1 := hr.at (o := 1) rfl
  have c2 := hr.at (o := 2) rfl
  have c3 := hr.at (o := 3) rfl
  have c4 := hr.at (o := 4) rfl
  have c5 := hr.at (o := 5) rfl
  have c6 := hr.at (o := 6) rfl
  have c7 := hr.at (o := 7) rfl
  have H := hide h
  clear hr h
  unfold ShT.v at H
  go_enter Tryd.func44, Tryd.ntmps44
  go_wp2_with (go_at_call 28; refine (unhide H).mono ?_; rintro e w' ⟨rfl, hb⟩)
  go_ret
  exact ⟨rfl, hb⟩
end Go.Proofs.YtlgloffdinnpfaaDoor.D
