/- spec.l6Record, spec.TermHolds; impl.isGiven. -/
import Derived.Test.YtmkgehcfdcoliaaRTt
import Derived.Test.YtmkgehcfdcoliaaRImT
namespace Go.Proofs.Ytmkgehcfdcoliaa.V
open Go.RowKit

/-- A good record. -/
def Rec (v : ValT) : Prop := v.k = 3 ∧ GoodVal v
theorem Rec.parts {v : ValT} (h : Rec v) : v.items.length ≤ 50 ∧ AllA v.items v.items.length ∧ v.names.length = v.items.length ∧ AllN v.names v.names.length ∧ RisN v.names v.names.length := by
  obtain ⟨h1, h2⟩ := h
  rcases h2 with h | h | h
  · omega
  · omega
  · exact h.2.2

set_option maxRecDepth 20000 in
set_option maxHeartbeats 400000 in
theorem l6Record_any (v : ValT) (hv : v.Ok) (a1 a2 : Option Addr) (l1 c1 l2 c2 : Nat) (w : World) (hs1 : SlA w a1 l1 v.items) (hs2 : SlS w a2 l2 v.names) :
    Calls Try.prog 35 #[vAgg v a1 l1 c1 a2 l2 c2] w fun e w' => RetB e (Rec v) ∧ Below w.heap.size w w' := by
  have B0 := hide (bAl (Below.refl w.heap.size w) (.cells #[.int .i64 v.k, .int .i64 v.a.x, .int .i64 v.a.n, .string v.a.t, .string v.a.y, .slice a1 l1 c1, .slice a2 l2 c2] 54))
  have q := hide (sGoodValue_any v hv a1 a2 l1 c1 l2 c2 (w.alloc (.cells #[.int .i64 v.k, .int .i64 v.a.x, .int .i64 v.a.n, .string v.a.t, .string v.a.y, .slice a1 l1 c1, .slice a2 l2 c2] 54)) (hs1.keep (unhide B0)) (hs2.keep (unhide B0)))
  have RI : Hid (Rec v ↔ v.k = 3 ∧ GoodVal v) := hide Iff.rfl
  clear hs1 hs2 hv
  generalize GoodVal v = GV at *
  generalize Rec v = RV at *
  by_cases hk : v.k = 3
  · have HK := hide hk
    have dk : (v.k == 3) = true := by simpa using hk
    clear hk
    go_enter Try.func35, Try.ntmps35
    go_wp2_with fail
    refine (unhide q).mono ?_
    rintro e w1 ⟨⟨b, rfl, hb⟩, hb1⟩
    have HB := hide hb
    have B1 := hide (bTr (unhide B0) hb1)
    clear hb hb1 q
    go_wp2_with fail
    go_ret
    exact ⟨retB (by rw [unhide RI, unhide HB]; exact ⟨fun h => ⟨unhide HK, h⟩, fun h => h.2⟩), unhide B1⟩
  · have dk : (v.k == 3) = false := by simpa using hk
    have N : Hid (¬ RV) := hide (by rw [unhide RI]; exact fun h => hk h.1)
    clear hk
    go_enter Try.func35, Try.ntmps35
    go_wp2_with fail
    go_ret
    exact ⟨retB (b := false) ⟨fun h => (by cases h), fun h => absurd h (unhide N)⟩, unhide B0⟩

set_option maxRecDepth 20000 in
set_option maxHeartbeats 400000 in
theorem isGiven_any (v : ValT) (hv : v.Ok) (a1 a2 : Option Addr) (l1 c1 l2 c2 : Nat) (w : World) (hl : l1 ≤ maxLen) (hs1 : SlA w a1 l1 v.items) (hs2 : SlS w a2 l2 v.names) :
    Calls Try.prog 41 #[vAgg v a1 l1 c1 a2 l2 c2] w fun e w' => RetB e (Rec v) ∧ Below w.heap.size w w' := by
  have B0 := hide (bAl (Below.refl w.heap.size w) (.cells #[.int .i64 v.k, .int .i64 v.a.x, .int .i64 v.a.n, .string v.a.t, .string v.a.y, .slice a1 l1 c1, .slice a2 l2 c2] 54))
  have q := hide (iGoodValue_any v hv a1 a2 l1 c1 l2 c2 (w.alloc (.cells #[.int .i64 v.k, .int .i64 v.a.x, .int .i64 v.a.n, .string v.a.t, .string v.a.y, .slice a1 l1 c1, .slice a2 l2 c2] 54)) hl (hs1.keep (unhide B0)) (hs2.keep (unhide B0)))
  have RI : Hid (Rec v ↔ v.k = 3 ∧ GoodVal v) := hide Iff.rfl
  clear hs1 hs2 hv
  generalize GoodVal v = GV at *
  generalize Rec v = RV at *
  by_cases hk : v.k = 3
  · have HK := hide hk
    have dk : (v.k == 3) = true := by simpa using hk
    clear hk
    go_enter Try.func41, Try.ntmps41
    go_wp2_with fail
    refine (unhide q).mono ?_
    rintro e w1 ⟨⟨b, rfl, hb⟩, hb1⟩
    have HB := hide hb
    have B1 := hide (bTr (unhide B0) hb1)
    clear hb hb1 q
    go_wp2_with fail
    go_ret
    exact ⟨retB (by rw [unhide RI, unhide HB]; exact ⟨fun h => ⟨unhide HK, h⟩, fun h => h.2⟩), unhide B1⟩
  · have dk : (v.k == 3) = false := by simpa using hk
    have N : Hid (¬ RV) := hide (by rw [unhide RI]; exact fun h => hk h.1)
    clear hk
    go_enter Try.func41, Try.ntmps41
    go_wp2_with fail
    go_ret
    exact ⟨retB (b := false) ⟨fun h => (by cases h), fun h => absurd h (unhide N)⟩, unhide B0⟩

/-- TermHolds may ask. -/
def askT (t : CavTermT) (v : ValT) : Prop := Rec v ∧ 1 ≤ t.f1 ∧ t.f1 ≤ 4 ∧ (t.f2 = empB ∨ zAtomT t)

set_option maxRecDepth 20000 in
set_option maxHeartbeats 1000000 in
theorem sTermHolds_any (t : CavTermT) (v : ValT) (a a1 a2 : Option Addr) (len cap l1 c1 l2 c2 : Nat) (l : List ParamT) (w : World) (ht : t.Ok) (hv : v.Ok) (hlen : len ≤ 1048576) (hs : SlParam w a len l) (hs1 : SlA w a1 l1 v.items) (hs2 : SlS w a2 l2 v.names) :
    Calls Try.prog 13 #[tAgg t, .slice a len cap, vAgg v a1 l1 c1 a2 l2 c2] w fun e w' => (∃ r : Int, e = .returned (.int .i64 r) ∧ (askT t v → r = termR l (gOf v) t) ∧ (¬ askT t v → r = -1)) ∧ Below w.heap.size w w' := by
  have HS := hide hs
  have HS1 := hide hs1
  have HS2 := hide hs2
  have q1 := hide (fun w hs1 hs2 => l6Record_any v hv a1 a2 l1 c1 l2 c2 w hs1 hs2)
  have L2 := hide hs2.1
  have q2 := hide (fun (h : Rec v) w hs hs1 hs2 => l6Term_any t v a a1 a2 len cap l1 c1 l2 c2 l w ht hv hlen (by rw [hs2.1, h.parts.2.2.1]; have := h.parts.1; omega) h.parts.2.2.1 hs hs1 hs2)
  clear hs hs1 hs2 hlen hv ht
  generalize termR l (gOf v) t = RES at *
  obtain ⟨WA, hWA⟩ : ∃ W, W = w.alloc (.cells #[.string t.f0, .int .i64 t.f1, .string t.f2, .int .i64 t.f3, .int .i64 t.f4, .string t.f5, .string t.f6] 49) := ⟨_, rfl⟩
  obtain ⟨W0, hW0⟩ : ∃ W, W = WA.alloc (.cells #[.int .i64 v.k, .int .i64 v.a.x, .int .i64 v.a.n, .string v.a.t, .string v.a.y, .slice a1 l1 c1, .slice a2 l2 c2] 54) := ⟨_, rfl⟩
  have zA' : WA.heap.size = w.heap.size + 1 := by rw [hWA]; simp
  have bA : Below w.heap.size w WA := by rw [hWA]; exact bAl (Below.refl _ _) _
  have b0 : Below WA.heap.size WA W0 := by rw [hW0]; exact bAl (Below.refl _ _) _
  have T0 := hide ((show RowIs WA w.heap.size #[.string t.f0, .int .i64 t.f1, .string t.f2, .int .i64 t.f3, .int .i64 t.f4, .string t.f5, .string t.f6] 49 by rw [hWA]; exact RowIs.new _ _ _).keep b0)
  have V0 := hide (show RowIs W0 (w.heap.size + 1) #[.int .i64 v.k, .int .i64 v.a.x, .int .i64 v.a.n, .string v.a.t, .string v.a.y, .slice a1 l1 c1, .slice a2 l2 c2] 54 by rw [hW0, ← zA']; exact RowIs.new _ _ _)
  have B0 := hide (bTr bA b0)
  have HW0 := hide (show (w.alloc (.cells #[.string t.f0, .int .i64 t.f1, .string t.f2, .int .i64 t.f3, .int .i64 t.f4, .string t.f5, .string t.f6] 49)).alloc (.cells #[.int .i64 v.k, .int .i64 v.a.x, .int .i64 v.a.n, .string v.a.t, .string v.a.y, .slice a1 l1 c1, .slice a2 l2 c2] 54) = W0 by rw [hW0, hWA])
  clear hWA hW0 zA' bA b0
  go_enter Try.func13, Try.ntmps13
  go_wp2_with fail
  rw [unhide HW0]
  refine (unhide q1 _ ((unhide HS1).keep (unhide B0)) ((unhide HS2).keep (unhide B0))).mono ?_
  rintro e w1 ⟨⟨b, rfl, hb⟩, hb1⟩
  have HB := hide hb
  have T1 := (unhide T0).keep hb1
  have V1 := (unhide V0).keep hb1
  have B1 := hide (bTr (unhide B0) hb1)
  clear hb hb1 q1 T0 V0 B0 HW0
  have t0 := T1.at (o := 0) (v := .string t.f0) rfl
  have t1 := T1.at (o := 1) (v := .int .i64 t.f1) rfl
  have t2 := T1.at (o := 2) (v := .string t.f2) rfl
  have t3 := T1.at (o := 3) (v := .int .i64 t.f3) rfl
  have t4 := T1.at (o := 4) (v := .int .i64 t.f4) rfl
  have t5 := T1.at (o := 5) (v := .string t.f5) rfl
  have t6 := T1.at (o := 6) (v := .string t.f6) rfl
  have zt := T1.lt
  have v0 := V1.at (o := 0) (v := .int .i64 v.k) rfl
  have v1 := V1.at (o := 1) (v := .int .i64 v.a.x) rfl
  have v2 := V1.at (o := 2) (v := .int .i64 v.a.n) rfl
  have v3 := V1.at (o := 3) (v := .string v.a.t) rfl
  have v4 := V1.at (o := 4) (v := .string v.a.y) rfl
  have v5 := V1.at (o := 5) (v := .slice a1 l1 c1) rfl
  have v6 := V1.at (o := 6) (v := .slice a2 l2 c2) rfl
  have zv := V1.lt
  clear T1 V1
  have NO : Hid (∀ {W : World}, ¬ askT t v → Below w.heap.size w W → (∃ r : Int, Ending.returned (.int .i64 (-1)) = .returned (.int .i64 r) ∧ (askT t v → r = RES) ∧ (¬ askT t v → r = -1)) ∧ Below w.heap.size w W) := hide (fun h k => ⟨⟨-1, rfl, fun h' => absurd h' h, fun _ => rfl⟩, k⟩)
  cases b
  · have N : Hid (¬ askT t v) := hide (fun h => by have := (unhide HB).2 h.1; cases this)
    go_wp2_with fail
    go_ret
    exact unhide NO (unhide N) (unhide B1)
  have HR := hide ((unhide HB).1 rfl)
  clear HB
  by_cases o1 : t.f1 < 1
  · have N : Hid (¬ askT t v) := hide (fun h => by have := h.2.1; omega)
    go_wp2_with fail
    go_ret
    exact unhide NO (unhide N) (unhide B1)
  by_cases o4 : 4 < t.f1
  · have N : Hid (¬ askT t v) := hide (fun h => by have := h.2.2.1; omega)
    go_wp2_with fail
    go_ret
    exact unhide NO (unhide N) (unhide B1)
  have d1 : decide (t.f1 < 1) = false := decide_eq_false o1
  have d4 : decide (4 < t.f1) = false := decide_eq_false o4
  have fin : Hid (∀ {W : World}, t.f2 = empB ∨ zAtomT t → Below w.heap.size w W → (∃ r : Int, Ending.returned (.int .i64 RES) = .returned (.int .i64 r) ∧ (askT t v → r = RES) ∧ (¬ askT t v → r = -1)) ∧ Below w.heap.size w W) := hide (fun h k => ⟨⟨RES, rfl, fun _ => rfl, fun h' => absurd ⟨unhide HR, by omega, by omega, h⟩ h'⟩, k⟩)
  have Q2 := hide (unhide q2 (unhide HR) w1 ((unhide HS).keep (unhide B1)) ((unhide HS1).keep (unhide B1)) ((unhide HS2).keep (unhide B1)))
  have O1 := hide o1
  have O4 := hide o4
  clear q2 o1 o4
  by_cases he : t.f2 = empB
  · have d2 : t.f2.toList.isEmpty = true := by rw [he]; exact isEmp
    have HE := hide he
    clear he
    go_wp2_with fail
    refine (unhide Q2).mono ?_
    rintro e w2 ⟨rfl, hb2⟩
    have B2 := hide (bTr (unhide B1) hb2)
    clear hb2 Q2
    go_wp2_with fail
    go_ret
    exact unhide fin (.inl (unhide HE)) (unhide B2)
  · have d2 := notEmp he
    by_cases hz : zAtomT t
    · have HZ := hide hz
      obtain ⟨z3, z4, z5, z6⟩ := hz
      rw [z3] at t3
      rw [z4] at t4
      rw [z5] at t5
      rw [z6] at t6
      have Q2' := unhide Q2
      unfold tAgg at Q2'
      rw [z3, z4, z5, z6] at Q2'
      replace Q2 := hide Q2'
      clear Q2' z3 z4 z5 z6
      go_wp2_with fail
      refine (unhide Q2).mono ?_
      rintro e w2 ⟨rfl, hb2⟩
      have B2 := hide (bTr (unhide B1) hb2)
      clear hb2 Q2
      go_wp2_with fail
      go_ret
      exact unhide fin (.inr (unhide HZ)) (unhide B2)
    · have N : Hid (¬ askT t v) := hide (fun h => by rcases h.2.2.2 with h | h; exact he h; exact hz h)
      have nz := notZ hz
      clear he hz fin Q2
      rcases nz with z3 | ⟨z3, z4⟩ | ⟨z3, z4, z5⟩ | ⟨z3, z4, z5, z6⟩
      all_goals go_wp2_with fail
      all_goals go_ret
      all_goals exact unhide NO (unhide N) (unhide B1)
end Go.Proofs.Ytmkgehcfdcoliaa.V
