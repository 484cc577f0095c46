/- NHe, NHf, one behind the other. -/
import Derived.Test.YtpfekkhnjaopdaaGreatJ26
import Derived.BigQuiet
import Derived.Deep.RegionHeld3
/- impl.thingIndex: testOf and its closures. -/
namespace Go.Proofs.YtpfekkhnjaopdaaGreat.V
set_option linter.unusedSimpArgs false
set_option linter.unusedVariables false
open Go.RowKit Go.Maps

def hAt (h : HeadT) : AtomT := ⟨h.x, h.n, h.t, h.y⟩
/-- A head matches. -/
def HMat (P : AtomT → List AtomT) (h : HeadT) (a : AtomT) : Prop := if h.k = 1 then True else if h.k = 2 then a = hAt h else if h.k = 3 then Up P a (hAt h) else if h.k = 4 then a.y = h.ty else False
def tst (k : Int) (bx bh : Nat) : Value := if k = 1 then .func (.func 65) #[] #[] else if k = 2 then .func (.func 66) #[] #[.pointer (some ⟨bh, 0, none⟩)] else if k = 3 then .func (.func 67) #[] #[.pointer (some ⟨bx, 0, none⟩), .pointer (some ⟨bh, 0, none⟩)] else if k = 4 then .func (.func 69) #[] #[.pointer (some ⟨bh, 0, none⟩)] else .func (.func 70) #[] #[]
set_option maxHeartbeats 1000000 in
theorem testOf_any (b1 b2 : Nat) (h : HeadT) (w : World) :
    Calls Tryz.prog 39 #[.agg #[.map (some b1), .map (some b2)], hAgg h] w fun e w' => e = .returned (tst h.k w.heap.size (w.heap.size + 1)) ∧ RowIs w' w.heap.size #[.map (some b1), .map (some b2)] 61 ∧ RowIs w' (w.heap.size + 1) #[.int .i64 h.k, .int .i64 h.x, .int .i64 h.n, .string h.t, .string h.y, .string h.ty] 43 ∧ Below w.heap.size w w' := by
  have R1 : Hid (RowIs ((w.alloc (.cells #[.map (some b1), .map (some b2)] 61)).alloc (.cells #[.int .i64 h.k, .int .i64 h.x, .int .i64 h.n, .string h.t, .string h.y, .string h.ty] 43)) w.heap.size #[.map (some b1), .map (some b2)] 61) := hide ((RowIs.new w _ _).keep (bAl (Below.refl _ _) _))
  have R2 : Hid (RowIs ((w.alloc (.cells #[.map (some b1), .map (some b2)] 61)).alloc (.cells #[.int .i64 h.k, .int .i64 h.x, .int .i64 h.n, .string h.t, .string h.y, .string h.ty] 43)) (w.heap.size + 1) #[.int .i64 h.k, .int .i64 h.x, .int .i64 h.n, .string h.t, .string h.y, .string h.ty] 43) := hide (by have := RowIs.new (w.alloc (.cells #[.map (some b1), .map (some b2)] 61)) #[.int .i64 h.k, .int .i64 h.x, .int .i64 h.n, .string h.t, .string h.y, .string h.ty] 43; simpa using this)
  have B := hide (bAl (bAl (Below.refl w.heap.size w) (.cells #[.map (some b1), .map (some b2)] 61)) (.cells #[.int .i64 h.k, .int .i64 h.x, .int .i64 h.n, .string h.t, .string h.y, .string h.ty] 43))
  obtain ⟨k, x, n, t, y, ty⟩ := h
  simp only at R1 R2 B ⊢
  unfold tst
  by_cases k1 : k = 1
  · subst k1
    go_enter Tryz.func39, Tryz.ntmps39
    go_wp2_with fail
    go_ret
    exact ⟨rfl, unhide R1, unhide R2, unhide B⟩
  have d1 : (k == 1) = false := by simpa using k1
  rw [if_neg k1]
  by_cases k2 : k = 2
  · subst k2
    go_enter Tryz.func39, Tryz.ntmps39
    go_wp2_with fail
    go_ret
    exact ⟨rfl, unhide R1, unhide R2, unhide B⟩
  have d2 : (k == 2) = false := by simpa using k2
  rw [if_neg k2]
  by_cases k3 : k = 3
  · subst k3
    go_enter Tryz.func39, Tryz.ntmps39
    go_wp2_with fail
    go_ret
    exact ⟨rfl, unhide R1, unhide R2, unhide B⟩
  have d3 : (k == 3) = false := by simpa using k3
  rw [if_neg k3]
  by_cases k4 : k = 4
  · subst k4
    go_enter Tryz.func39, Tryz.ntmps39
    go_wp2_with fail
    go_ret
    exact ⟨rfl, unhide R1, unhide R2, unhide B⟩
  have d4 : (k == 4) = false := by simpa using k4
  rw [if_neg k4]
  clear k1 k2 k3 k4
  go_enter Tryz.func39, Tryz.ntmps39
  go_wp2_with fail
  go_ret
  exact ⟨rfl, unhide R1, unhide R2, unhide B⟩
theorem t1_any (a : AtomT) (w : World) : Calls Tryz.prog 65 #[encA a] w fun e w' => e = .returned (.bool true) ∧ Below w.heap.size w w' := by
  unfold encA
  go_enter Tryz.func65, Tryz.ntmps65
  go_wp2_with fail
  go_ret
  exact ⟨rfl, bAl (Below.refl _ _) _⟩
theorem t5_any (a : AtomT) (w : World) : Calls Tryz.prog 70 #[encA a] w fun e w' => e = .returned (.bool false) ∧ Below w.heap.size w w' := by
  unfold encA
  go_enter Tryz.func70, Tryz.ntmps70
  go_wp2_with fail
  go_ret
  exact ⟨rfl, bAl (Below.refl _ _) _⟩
theorem str_neN {a b : ByteArray} (h : ¬ a = b) : (ByteArray.toList a == ByteArray.toList b) = false := by
  have : ¬ a.toList = b.toList := fun e => h (by
    rw [ByteArray.toList_eq, ByteArray.toList_eq] at e
    exact Go.WideShapes.bytes_inj e)
  simpa using this
set_option maxRecDepth 20000 in
set_option maxHeartbeats 1000000 in
theorem t2_any (h : HeadT) (bh : Nat) (a : AtomT) (w : World) (R : RowIs w bh #[.int .i64 h.k, .int .i64 h.x, .int .i64 h.n, .string h.t, .string h.y, .string h.ty] 43) : Calls Tryz.prog 66 #[encA a, .pointer (some ⟨bh, 0, none⟩)] w fun e w' => RetB e (a = hAt h) ∧ Below w.heap.size w w' := by
  unfold encA hAt
  have zl := R.lt
  obtain ⟨ax, an, at', ay⟩ := a
  obtain ⟨k, x, n, t, y, ty⟩ := h
  simp only at R ⊢
  have RA := R.keep (bAl (Below.refl _ _) (.cells #[.int .i64 ax, .int .i64 an, .string at', .string ay] 31))
  have c1 := RA.at (o := 1) (v := .int .i64 x) rfl
  have c2 := RA.at (o := 2) (v := .int .i64 n) rfl
  have c3 := RA.at (o := 3) (v := .string t) rfl
  have c4 := RA.at (o := 4) (v := .string y) rfl
  clear R RA
  by_cases e0 : ax = x
  case neg =>
    have d : (ax == x) = false := by simpa using e0
    have no : Hid (¬ (⟨ax, an, at', ay⟩ : AtomT) = ⟨x, n, t, y⟩) := hide (fun h => e0 (by injection h))
    clear e0
    go_enter Tryz.func66, Tryz.ntmps66
    go_wp2_with fail
    go_ret
    exact ⟨retB (b := false) ⟨fun h => (by cases h), fun h => absurd h (unhide no)⟩, bAl (Below.refl _ _) _⟩
  subst e0
  by_cases e1 : an = n
  case neg =>
    have d : (an == n) = false := by simpa using e1
    have no : Hid (¬ (⟨ax, an, at', ay⟩ : AtomT) = ⟨ax, n, t, y⟩) := hide (fun h => e1 (by injection h))
    clear e1
    go_enter Tryz.func66, Tryz.ntmps66
    go_wp2_with fail
    go_ret
    exact ⟨retB (b := false) ⟨fun h => (by cases h), fun h => absurd h (unhide no)⟩, bAl (Below.refl _ _) _⟩
  subst e1
  by_cases e2 : at' = t
  case neg =>
    have d : (ByteArray.toList at' == ByteArray.toList t) = false := str_neN e2
    have no : Hid (¬ (⟨ax, an, at', ay⟩ : AtomT) = ⟨ax, an, t, y⟩) := hide (fun h => e2 (by injection h))
    clear e2
    go_enter Tryz.func66, Tryz.ntmps66
    go_wp2_with fail
    go_ret
    exact ⟨retB (b := false) ⟨fun h => (by cases h), fun h => absurd h (unhide no)⟩, bAl (Below.refl _ _) _⟩
  subst e2
  by_cases e3 : ay = y
  case neg =>
    have d : (ByteArray.toList ay == ByteArray.toList y) = false := str_neN e3
    have no : Hid (¬ (⟨ax, an, at', ay⟩ : AtomT) = ⟨ax, an, at', y⟩) := hide (fun h => e3 (by injection h))
    clear e3
    go_enter Tryz.func66, Tryz.ntmps66
    go_wp2_with fail
    go_ret
    exact ⟨retB (b := false) ⟨fun h => (by cases h), fun h => absurd h (unhide no)⟩, bAl (Below.refl _ _) _⟩
  subst e3
  go_enter Tryz.func66, Tryz.ntmps66
  go_wp2_with fail
  go_ret
  exact ⟨retB (b := true) (by first | exact ⟨fun _ => rfl, fun _ => rfl⟩ | simp), bAl (Below.refl _ _) _⟩
set_option maxRecDepth 20000 in
set_option maxHeartbeats 1000000 in
theorem t4_any (h : HeadT) (bh : Nat) (a : AtomT) (w : World) (R : RowIs w bh #[.int .i64 h.k, .int .i64 h.x, .int .i64 h.n, .string h.t, .string h.y, .string h.ty] 43) : Calls Tryz.prog 69 #[encA a, .pointer (some ⟨bh, 0, none⟩)] w fun e w' => RetB e (a.y = h.ty) ∧ Below w.heap.size w w' := by
  unfold encA
  have zl := R.lt
  obtain ⟨ax, an, at', ay⟩ := a
  obtain ⟨k, x, n, t, y, ty⟩ := h
  simp only at R ⊢
  have RA := R.keep (bAl (Below.refl _ _) (.cells #[.int .i64 ax, .int .i64 an, .string at', .string ay] 31))
  have c5 := RA.at (o := 5) (v := .string ty) rfl
  clear R RA
  by_cases e : ay = ty
  case neg =>
    have d : (ByteArray.toList ay == ByteArray.toList ty) = false := str_neN e
    have no : Hid (¬ ay = ty) := hide e
    clear e
    go_enter Tryz.func69, Tryz.ntmps69
    go_wp2_with fail
    go_ret
    exact ⟨retB (b := false) ⟨fun h => (by cases h), fun h => absurd h (unhide no)⟩, bAl (Below.refl _ _) _⟩
  subst e
  go_enter Tryz.func69, Tryz.ntmps69
  go_wp2_with fail
  go_ret
  exact ⟨retB (b := true) (by first | exact ⟨fun _ => rfl, fun _ => rfl⟩ | simp), bAl (Below.refl _ _) _⟩
end Go.Proofs.YtpfekkhnjaopdaaGreat.V
/- impl.thingIndex: the head that asks what is above. -/
namespace Go.Proofs.YtpfekkhnjaopdaaGreat.V
set_option linter.unusedSimpArgs false
set_option linter.unusedVariables false
open Go.RowKit Go.Maps

set_option maxRecDepth 20000 in
set_option maxHeartbeats 4000000 in
theorem t3_any (w0 : World) (lt : List ThingE) (M : AtomT → Option Value) (C : AtomT → Option ThingE) (b1 b2 n1 : Nat) (h : HeadT) (bx bh : Nat) (a : AtomT) (w : World) (hm0 : ∀ e ∈ lt, ThingM w0 0 e) (hC : KCA lt M C) (hg : GThs (lt.map (·.t))) (hn : ∀ e ∈ lt, ThingN e.t) (ha : OkA a) (hh : OkA (hAt h)) (h12 : b1 ≠ b2) (hb : Below w0.heap.size w0 w) (hz2 : w0.heap.size ≤ b2) (hk1 : KAt w b1 n1 M) (hk2 : KAt w b2 0 (fun _ => none))
    (RX : RowIs w bx #[.map (some b1), .map (some b2)] 61) (RH : RowIs w bh #[.int .i64 h.k, .int .i64 h.x, .int .i64 h.n, .string h.t, .string h.y, .string h.ty] 43) (nx : bx ≠ b2) (nh : bh ≠ b2) :
    Calls Tryz.prog 67 #[encA a, .pointer (some ⟨bx, 0, none⟩), .pointer (some ⟨bh, 0, none⟩)] w fun e w' => RetB e (Up (parC C) a (hAt h)) ∧ w.grownBy w' (some b2) := by
  have z2 := hk2.lt
  obtain ⟨W, hW⟩ : ∃ W, W = w.alloc (.cells #[.int .i64 a.x, .int .i64 a.n, .string a.t, .string a.y] 31) := ⟨_, rfl⟩
  have bW : Below w.heap.size w W := by rw [hW]; exact bAl (Below.refl _ _) _
  have R0 : RowIs W w.heap.size #[.int .i64 a.x, .int .i64 a.n, .string a.t, .string a.y] 31 := by rw [hW]; exact RowIs.new _ _ _
  have RX' := RX.keep bW
  have RH' := RH.keep bW
  have q1 := hide (fun (w1 : World) (hb1 : Below W.heap.size W w1) => ancestors_n w0 lt M C b1 b2 n1 a w1 hm0 hC hg hn ha h12 (bTr (bTr hb bW) hb1) hz2 ((hk1.keepB bW hk1.lt).keepB hb1 (hk1.keepB bW hk1.lt).lt) ((hk2.keepB bW hk2.lt).keepB hb1 (hk2.keepB bW hk2.lt).lt))
  have HX := hide RX'
  have HH := hide RH'
  have H0 := hide R0
  have GW := hide (grownB bW (some b2))
  have HW := hide hW.symm
  have nx' : some bx ≠ some b2 := fun e => nx (Option.some.inj e)
  have nh' : some bh ≠ some b2 := fun e => nh (Option.some.inj e)
  have n0' : some w.heap.size ≠ some b2 := fun e => by have := Option.some.inj e; omega
  have s0 := RX'.at (o := 0) (v := .map (some b1)) rfl
  have s1 := RX'.at (o := 1) (v := .map (some b2)) rfl
  have a0 := R0.at (o := 0) (v := .int .i64 a.x) rfl
  have a1 := R0.at (o := 1) (v := .int .i64 a.n) rfl
  have a2 := R0.at (o := 2) (v := .string a.t) rfl
  have a3 := R0.at (o := 3) (v := .string a.y) rfl
  have c1 := RH'.at (o := 1) (v := .int .i64 h.x) rfl
  have c2 := RH'.at (o := 2) (v := .int .i64 h.n) rfl
  have c3 := RH'.at (o := 3) (v := .string h.t) rfl
  have c4 := RH'.at (o := 4) (v := .string h.y) rfl
  have hhk := hide hh
  clear hm0 hC hg hn hb hk1 hk2 RX RH RX' RH' R0 hW bW
  unfold encA at q1 ⊢
  go_enter Tryz.func67, Tryz.ntmps67
  go_wp2_with fail
  rw [unhide HW]
  go_region_held3 (fun w' => w'.cell? ⟨bx, 0, none⟩ = some (.map (some b1)) ∧ w'.cell? ⟨bx, 1, none⟩ = some (.map (some b2)) ∧ w'.cell? ⟨w.heap.size, 0, none⟩ = some (.int .i64 a.x) ∧ w'.cell? ⟨w.heap.size, 1, none⟩ = some (.int .i64 a.n) ∧ w'.cell? ⟨w.heap.size, 2, none⟩ = some (.string a.t) ∧ w'.cell? ⟨w.heap.size, 3, none⟩ = some (.string a.y) ∧ w'.cell? ⟨bh, 1, none⟩ = some (.int .i64 h.x) ∧ w'.cell? ⟨bh, 2, none⟩ = some (.int .i64 h.n) ∧ w'.cell? ⟨bh, 3, none⟩ = some (.string h.t) ∧ w'.cell? ⟨bh, 4, none⟩ = some (.string h.y))
    (first | exact ⟨s0, s1, a0, a1, a2, a3, c1, c2, c3, c4⟩ | exact unhide Y1 | exact unhide Y2)
    (first
      | (go_at_call 29; refine (unhide q1 _ (Below.refl _ _).drew).mono ?_; rintro e w1 ⟨bf, n, rfl, k1, g1⟩; have X1 := hide (rowGrown (unhide HX) ⟨g1.os, g1.tape, g1.output, g1.size, g1.block⟩ nx'); have X2 := hide (rowGrown (unhide HH) ⟨g1.os, g1.tape, g1.output, g1.size, g1.block⟩ nh'); have X3 := hide (rowGrown (unhide H0) ⟨g1.os, g1.tape, g1.output, g1.size, g1.block⟩ n0'); have Y1 := hide (And.intro ((unhide X1).at (o := 0) (v := .map (some b1)) rfl) (And.intro ((unhide X1).at (o := 1) (v := .map (some b2)) rfl) (And.intro ((unhide X3).at (o := 0) (v := .int .i64 a.x) rfl) (And.intro ((unhide X3).at (o := 1) (v := .int .i64 a.n) rfl) (And.intro ((unhide X3).at (o := 2) (v := .string a.t) rfl) (And.intro ((unhide X3).at (o := 3) (v := .string a.y) rfl) (And.intro ((unhide X2).at (o := 1) (v := .int .i64 h.x) rfl) (And.intro ((unhide X2).at (o := 2) (v := .int .i64 h.n) rfl) (And.intro ((unhide X2).at (o := 3) (v := .string h.t) rfl) ((unhide X2).at (o := 4) (v := .string h.y) rfl)))))))))); have KB := hide k1; have G1 := hide ((unhide GW).trans ⟨g1.os, g1.tape, g1.output, g1.size, g1.block⟩); clear k1 g1)
      | (go_at_call 68; refine (hasA_any bf n _ (hAt h) _ (unhide KB) (unhide hhk)).mono ?_; rintro e w2 ⟨⟨v, rfl, hv⟩, hb2⟩; have Y2 := hide (And.intro (((unhide X1).keep hb2).at (o := 0) (v := .map (some b1)) rfl) (And.intro (((unhide X1).keep hb2).at (o := 1) (v := .map (some b2)) rfl) (And.intro (((unhide X3).keep hb2).at (o := 0) (v := .int .i64 a.x) rfl) (And.intro (((unhide X3).keep hb2).at (o := 1) (v := .int .i64 a.n) rfl) (And.intro (((unhide X3).keep hb2).at (o := 2) (v := .string a.t) rfl) (And.intro (((unhide X3).keep hb2).at (o := 3) (v := .string a.y) rfl) (And.intro (((unhide X2).keep hb2).at (o := 1) (v := .int .i64 h.x) rfl) (And.intro (((unhide X2).keep hb2).at (o := 2) (v := .int .i64 h.n) rfl) (And.intro (((unhide X2).keep hb2).at (o := 3) (v := .string h.t) rfl) (((unhide X2).keep hb2).at (o := 4) (v := .string h.y) rfl)))))))))); have HV := hide hv; have G2 := hide ((unhide G1).trans (grownB hb2 (some b2))); clear hv hb2))
  go_wp2_with fail
  go_ret
  exact ⟨retB (b := v) (unhide HV), unhide G2⟩
end Go.Proofs.YtpfekkhnjaopdaaGreat.V
