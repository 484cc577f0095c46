/- impl.thingIndex: testOf and its closures. -/
import Derived.Test.YtpfekkhnjaopdaaGreatNHd
import Derived.BigQuiet
import Derived.Deep.RegionHeld3
namespace Go.Proofs.YtpfekkhnjaopdaaGreat.V
set_option linter.unusedSimpArgs false
set_option linter.unusedVariables false
open Go.RowKit Go.Maps

def hAt (h : HeadT) : AtomT := ⟨h.x, h.n, h.t, h.y⟩
/-- A head matches. -/
def HMat (P : AtomT → List AtomT) (h : HeadT) (a : AtomT) : Prop := if h.k = 1 then True else if h.k = 2 then a = hAt h else if h.k = 3 then Up P a (hAt h) else if h.k = 4 then a.y = h.ty else False
def tst (k : Int) (bx bh : Nat) : Value := if k = 1 then .func (.func 65) #[] #[] else if k = 2 then .func (.func 66) #[] #[.pointer (some ⟨bh, 0, none⟩)] else if k = 3 then .func (.func 67) #[] #[.pointer (some ⟨bx, 0, none⟩), .pointer (some ⟨bh, 0, none⟩)] else if k = 4 then .func (.func 69) #[] #[.pointer (some ⟨bh, 0, none⟩)] else .func (.func 70) #[] #[]
set_option maxHeartbeats 1000000 in
theorem testOf_any (b1 b2 : Nat) (h : HeadT) (w : World) :
    Calls Tryz.prog 39 #[.agg #[.map (some b1), .map (some b2)], hAgg h] w fun e w' => e = .returned (tst h.k w.heap.size (w.heap.size + 1)) ∧ RowIs w' w.heap.size #[.map (some b1), .map (some b2)] 61 ∧ RowIs w' (w.heap.size + 1) #[.int .i64 h.k, .int .i64 h.x, .int .i64 h.n, .string h.t, .string h.y, .string h.ty] 43 ∧ Below w.heap.size w w' := by
  have R1 : Hid (RowIs ((w.alloc (.cells #[.map (some b1), .map (some b2)] 61)).alloc (.cells #[.int .i64 h.k, .int .i64 h.x, .int .i64 h.n, .string h.t, .string h.y, .string h.ty] 43)) w.heap.size #[.map (some b1), .map (some b2)] 61) := hide ((RowIs.new w _ _).keep (bAl (Below.refl _ _) _))
  have R2 : Hid (RowIs ((w.alloc (.cells #[.map (some b1), .map (some b2)] 61)).alloc (.cells #[.int .i64 h.k, .int .i64 h.x, .int .i64 h.n, .string h.t, .string h.y, .string h.ty] 43)) (w.heap.size + 1) #[.int .i64 h.k, .int .i64 h.x, .int .i64 h.n, .string h.t, .string h.y, .string h.ty] 43) := hide (by have := RowIs.new (w.alloc (.cells #[.map (some b1), .map (some b2)] 61)) #[.int .i64 h.k, .int .i64 h.x, .int .i64 h.n, .string h.t, .string h.y, .string h.ty] 43; simpa using this)
  have B := hide (bAl (bAl (Below.refl w.heap.size w) (.cells #[.map (some b1), .map (some b2)] 61)) (.cells #[.int .i64 h.k, .int .i64 h.x, .int .i64 h.n, .string h.t, .string h.y, .string h.ty] 43))
  obtain ⟨k, x, n, t, y, ty⟩ := h
  simp only at R1 R2 B ⊢
  unfold tst
  by_cases k1 : k = 1
  · subst k1
    go_enter Tryz.func39, Tryz.ntmps39
    go_wp2_with fail
    go_ret
    exact ⟨rfl, unhide R1, unhide R2, unhide B⟩
  have d1 : (k == 1) = false := by simpa using k1
  rw [if_neg k1]
  by_cases k2 : k = 2
  · subst k2
    go_enter Tryz.func39, Tryz.ntmps39
    go_wp2_with fail
    go_ret
    exact ⟨rfl, unhide R1, unhide R2, unhide B⟩
  have d2 : (k == 2) = false := by simpa using k2
  rw [if_neg k2]
  by_cases k3 : k = 3
  · subst k3
    go_enter Tryz.func39, Tryz.ntmps39
    go_wp2_with fail
    go_ret
    exact ⟨rfl, unhide R1, unhide R2, unhide B⟩
  have d3 : (k == 3) = false := by simpa using k3
  rw [if_neg k3]
  by_cases k4 : k = 4
  · subst k4
    go_enter Tryz.func39, Tryz.ntmps39
    go_wp2_with fail
    go_ret
    exact ⟨rfl, unhide R1, unhide R2, unhide B⟩
  have d4 : (k == 4) = false := by simpa using k4
  rw [if_neg k4]
  clear k1 k2 k3 k4
  go_enter Tryz.func39, Tryz.ntmps39
  go_wp2_with fail
  go_ret
  exact ⟨rfl, unhide R1, unhide R2, unhide B⟩
theorem t1_any (a : AtomT) (w : World) : Calls Tryz.prog 65 #[encA a] w fun e w' => e = .returned (.bool true) ∧ Below w.heap.size w w' := by
  unfold encA
  go_enter Tryz.func65, Tryz.ntmps65
  go_wp2_with fail
  go_ret
  exact ⟨rfl, bAl (Below.refl _ _) _⟩
theorem t5_any (a : AtomT) (w : World) : Calls Tryz.prog 70 #[encA a] w fun e w' => e = .returned (.bool false) ∧ Below w.heap.size w w' := by
  unfold encA
  go_enter Tryz.func70, Tryz.ntmps70
  go_wp2_with fail
  go_ret
  exact ⟨rfl, bAl (Below.refl _ _) _⟩
theorem str_neN {a b : ByteArray} (h : ¬ a = b) : (ByteArray.toList a == ByteArray.toList b) = false := by
  have : ¬ a.toList = b.toList := fun e => h (by
    rw [ByteArray.toList_eq, ByteArray.toList_eq] at e
    exact Go.WideShapes.bytes_inj e)
  simpa using this
set_option maxRecDepth 20000 in
set_option maxHeartbeats 1000000 in
theorem t2_any (h : HeadT) (bh : Nat) (a : AtomT) (w : World) (R : RowIs w bh #[.int .i64 h.k, .int .i64 h.x, .int .i64 h.n, .string h.t, .string h.y, .string h.ty] 43) : Calls Tryz.prog 66 #[encA a, .pointer (some ⟨bh, 0, none⟩)] w fun e w' => RetB e (a = hAt h) ∧ Below w.heap.size w w' := by
  unfold encA hAt
  have zl := R.lt
  obtain ⟨ax, an, at', ay⟩ := a
  obtain ⟨k, x, n, t, y, ty⟩ := h
  simp only at R ⊢
  have RA := R.keep (bAl (Below.refl _ _) (.cells #[.int .i64 ax, .int .i64 an, .string at', .string ay] 31))
  have c1 := RA.at (o := 1) (v := .int .i64 x) rfl
  have c2 := RA.at (o := 2) (v := .int .i64 n) rfl
  have c3 := RA.at (o := 3) (v := .string t) rfl
  have c4 := RA.at (o := 4) (v := .string y) rfl
  clear R RA
  by_cases e0 : ax = x
  case neg =>
    have d : (ax == x) = false := by simpa using e0
    have no : Hid (¬ (⟨ax, an, at', ay⟩ : AtomT) = ⟨x, n, t, y⟩) := hide (fun h => e0 (by injection h))
    clear e0
    go_enter Tryz.func66, Tryz.ntmps66
    go_wp2_with fail
    go_ret
    exact ⟨retB (b := false) ⟨fun h => (by cases h), fun h => absurd h (unhide no)⟩, bAl (Below.refl _ _) _⟩
  subst e0
  by_cases e1 : an = n
  case neg =>
    have d : (an == n) = false := by simpa using e1
    have no : Hid (¬ (⟨ax, an, at', ay⟩ : AtomT) = ⟨ax, n, t, y⟩) := hide (fun h => e1 (by injection h))
    clear e1
    go_enter Tryz.func66, Tryz.ntmps66
    go_wp2_with fail
    go_ret
    exact ⟨retB (b := false) ⟨fun h => (by cases h), fun h => absurd h (unhide no)⟩, bAl (Below.refl _ _) _⟩
  subst e1
  by_cases e2 : at' = t
  case neg =>
    have d : (ByteArray.toList at' == ByteArray.toList t) = false := str_neN e2
    have no : Hid (¬ (⟨ax, an, at', ay⟩ : AtomT) = ⟨ax, an, t, y⟩) := hide (fun h => e2 (by injection h))
    clear e2
    go_enter Tryz.func66, Tryz.ntmps66
    go_wp2_with fail
    go_ret
    exact ⟨retB (b := false) ⟨fun h => (by cases h), fun h => absurd h (unhide no)⟩, bAl (Below.refl _ _) _⟩
  subst e2
  by_cases e3 : ay = y
  case neg =>
    have d : (ByteArray.toList ay == ByteArray.toList y) = false := str_neN e3
    have no : Hid (¬ (⟨ax, an, at', ay⟩ : AtomT) = ⟨ax, an, at', y⟩) := hide (fun h => e3 (by injection h))
    clear e3
    go_enter Tryz.func66, Tryz.ntmps66
    go_wp2_with fail
    go_ret
    exact ⟨retB (b := false) ⟨fun h => (by cases h), fun h => absurd h (unhide no)⟩, bAl (Below.refl _ _) _⟩
  subst e3
  go_enter Tryz.func66, Tryz.ntmps66
  go_wp2_with fail
  go_ret
  exact ⟨retB (b := true) (by first | exact ⟨fun _ => rfl, fun _ => rfl⟩ | simp), bAl (Below.refl _ _) _⟩
set_option maxRecDepth 20000 in
set_option maxHeartbeats 1000000 in
theorem t4_any (h : HeadT) (bh : Nat) (a : AtomT) (w : World) (R : RowIs w bh #[.int .i64 h.k, .int .i64 h.x, .int .i64 h.n, .string h.t, .string h.y, .string h.ty] 43) : Calls Tryz.prog 69 #[encA a, .pointer (some ⟨bh, 0, none⟩)] w fun e w' => RetB e (a.y = h.ty) ∧ Below w.heap.size w w' := by
  unfold encA
  have zl := R.lt
  obtain ⟨ax, an, at', ay⟩ := a
  obtain ⟨k, x, n, t, y, ty⟩ := h
  simp only at R ⊢
  have RA := R.keep (bAl (Below.refl _ _) (.cells #[.int .i64 ax, .int .i64 an, .string at', .string ay] 31))
  have c5 := RA.at (o := 5) (v := .string ty) rfl
  clear R RA
  by_cases e : ay = ty
  case neg =>
    have d : (ByteArray.toList ay == ByteArray.toList ty) = false := str_neN e
    have no : Hid (¬ ay = ty) := hide e
    clear e
    go_enter Tryz.func69, Tryz.ntmps69
    go_wp2_with fail
    go_ret
    exact ⟨retB (b := false) ⟨fun h => (by cases h), fun h => absurd h (unhide no)⟩, bAl (Below.refl _ _) _⟩
  subst e
  go_enter Tryz.func69, Tryz.ntmps69
  go_wp2_with fail
  go_ret
  exact ⟨retB (b := true) (by first | exact ⟨fun _ => rfl, fun _ => rfl⟩ | simp), bAl (Below.refl _ _) _⟩
end Go.Proofs.YtpfekkhnjaopdaaGreat.V
