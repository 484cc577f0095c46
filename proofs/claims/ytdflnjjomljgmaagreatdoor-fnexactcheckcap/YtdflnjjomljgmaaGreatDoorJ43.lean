/- RThi, KCt, one behind the other. -/
import Derived.Test.YtdflnjjomljgmaaGreatDoorJ42
import Derived.Deep.RegionHeld3
import Derived.Test.YtdflnjjomljgmaaGreatDoorJ32
/- impl.TermHolds. -/
namespace Go.Proofs.YtdflnjjomljgmaaGreatDoor.V
open Go.RowKit Go.Maps

set_option maxRecDepth 20000 in
set_option maxHeartbeats 1000000 in
theorem iTermHolds_any (t : CavTermT) (v : ValT) (a a1 a2 : Option Addr) (len cap l1 c1 l2 c2 : Nat) (l : List ParamT) (w : World) (ht : t.Ok) (hv : v.Ok) (hlen : len ≤ 1048576) (hl1 : l1 ≤ maxLen) (hs : SlParam w a len l) (hs1 : SlA w a1 l1 v.items) (hs2 : SlS w a2 l2 v.names) :
    Calls Tryz.prog 57 #[tAgg t, .slice a len cap, vAgg v a1 l1 c1 a2 l2 c2] w fun e w' => (∃ r : Int, e = .returned (.int .i64 r) ∧ (askT t v → r = termR l (gOf v) t) ∧ (¬ askT t v → r = -1)) ∧ Below w.heap.size w w' := by
  have HS := hide hs
  have HS1 := hide hs1
  have HS2 := hide hs2
  have q1 := hide (fun w hs1 hs2 => isGiven_any v hv a1 a2 l1 c1 l2 c2 w hl1 hs1 hs2)
  have q2 := hide (fun w hs => termCond_any t a len cap l w hlen ht hs)
  have q3 := hide (fun hr w hs1 hs2 => givenAtomsOf_any v hv hr a1 a2 l1 c1 l2 c2 w hs1 hs2)
  have og := hide (gOf_ok hv)
  clear hs hs1 hs2 hlen hl1 hv ht
  generalize hRES : termR l (gOf v) t = RES
  have HRES := hide hRES
  clear hRES
  obtain ⟨f0, f1, f2, f3, f4, f5, f6⟩ := t
  have askI : Hid (askT ⟨f0, f1, f2, f3, f4, f5, f6⟩ v ↔ (Rec v ∧ 1 ≤ f1 ∧ f1 ≤ 4 ∧ (f2 = empB ∨ zAtomT ⟨f0, f1, f2, f3, f4, f5, f6⟩))) := hide Iff.rfl
  have nz := @notZ ⟨f0, f1, f2, f3, f4, f5, f6⟩
  generalize askT ⟨f0, f1, f2, f3, f4, f5, f6⟩ v = ASK at *
  have NO : Hid (∀ {W : World}, ¬ ASK → Below w.heap.size w W → (∃ r : Int, Ending.returned (.int .i64 (-1)) = .returned (.int .i64 r) ∧ (ASK → r = RES) ∧ (¬ ASK → r = -1)) ∧ Below w.heap.size w W) := hide (fun h k => ⟨⟨-1, rfl, fun h' => absurd h' h, fun _ => rfl⟩, k⟩)
  simp only [tAgg] at q2 ⊢
  by_cases he : f2 = empB
  · subst he
    clear nz
    have ie := isEmp
    obtain ⟨WA, hWA⟩ : ∃ W, W = w.alloc (.cells #[.string f0, .int .i64 f1, .string empB, .int .i64 f3, .int .i64 f4, .string f5, .string f6] 58) := ⟨_, rfl⟩
    obtain ⟨W0, hW0⟩ : ∃ W, W = WA.alloc (.cells #[.int .i64 v.k, .int .i64 v.a.x, .int .i64 v.a.n, .string v.a.t, .string v.a.y, .slice a1 l1 c1, .slice a2 l2 c2] 43) := ⟨_, rfl⟩
    have zA' : WA.heap.size = w.heap.size + 1 := by rw [hWA]; simp
    have bA : Below w.heap.size w WA := by rw [hWA]; exact bAl (Below.refl _ _) _
    have b0 : Below WA.heap.size WA W0 := by rw [hW0]; exact bAl (Below.refl _ _) _
    have T0 := hide ((show RowIs WA w.heap.size #[.string f0, .int .i64 f1, .string empB, .int .i64 f3, .int .i64 f4, .string f5, .string f6] 58 by rw [hWA]; exact RowIs.new _ _ _).keep b0)
    have V0 := hide (show RowIs W0 (w.heap.size + 1) #[.int .i64 v.k, .int .i64 v.a.x, .int .i64 v.a.n, .string v.a.t, .string v.a.y, .slice a1 l1 c1, .slice a2 l2 c2] 43 by rw [hW0, ← zA']; exact RowIs.new _ _ _)
    have B0 := hide (bTr bA b0)
    have HW0 := hide (show (w.alloc (.cells #[.string f0, .int .i64 f1, .string empB, .int .i64 f3, .int .i64 f4, .string f5, .string f6] 58)).alloc (.cells #[.int .i64 v.k, .int .i64 v.a.x, .int .i64 v.a.n, .string v.a.t, .string v.a.y, .slice a1 l1 c1, .slice a2 l2 c2] 43) = W0 by rw [hW0, hWA])
    clear hWA hW0 zA' bA b0
    go_enter Tryz.func57, Tryz.ntmps57
    go_wp2_with fail
    rw [unhide HW0]
    refine (unhide q1 _ ((unhide HS1).keep (unhide B0)) ((unhide HS2).keep (unhide B0))).mono ?_
    rintro e w1 ⟨⟨b, rfl, hb⟩, hb1⟩
    have HB := hide hb
    have T1 := (unhide T0).keep hb1
    have T1' := hide T1
    have V1 := hide ((unhide V0).keep hb1)
    have B1 := hide (bTr (unhide B0) hb1)
    clear hb hb1 q1 T0 V0 B0 HW0
    have t0 := T1.at (o := 0) (v := .string f0) rfl
    have t1 := T1.at (o := 1) (v := .int .i64 f1) rfl
    have t2 := T1.at (o := 2) (v := .string empB) rfl
    have t3 := T1.at (o := 3) (v := .int .i64 f3) rfl
    have t4 := T1.at (o := 4) (v := .int .i64 f4) rfl
    have t5 := T1.at (o := 5) (v := .string f5) rfl
    have t6 := T1.at (o := 6) (v := .string f6) rfl
    have zt := T1.lt
    clear T1
    cases b
    · have N : Hid (¬ ASK) := hide (fun h => by have := (unhide HB).2 ((unhide askI).1 h).1; cases this)
      go_wp2_with fail
      go_ret
      exact unhide NO (unhide N) (unhide B1)
    have HR := hide ((unhide HB).1 rfl)
    clear HB
    by_cases o1 : f1 < 1
    · have N : Hid (¬ ASK) := hide (fun h => by have := ((unhide askI).1 h).2.1; omega)
      go_wp2_with fail
      go_ret
      exact unhide NO (unhide N) (unhide B1)
    by_cases o4 : 4 < f1
    · have N : Hid (¬ ASK) := hide (fun h => by have := ((unhide askI).1 h).2.2.1; omega)
      go_wp2_with fail
      go_ret
      exact unhide NO (unhide N) (unhide B1)
    have d1 : decide (f1 < 1) = false := decide_eq_false o1
    have d4 : decide (4 < f1) = false := decide_eq_false o4
    have YES : Hid ASK := hide ((unhide askI).2 ⟨unhide HR, by omega, by omega, .inl (by simp)⟩)
    clear o1 o4
    have QV : Hid (∀ w', Below w1.heap.size w1 w' → (w'.cell? ⟨w.heap.size, 0, none⟩ = some (.string f0) ∧ w'.cell? ⟨w.heap.size, 1, none⟩ = some (.int .i64 f1) ∧ w'.cell? ⟨w.heap.size, 2, none⟩ = some (.string empB) ∧ w'.cell? ⟨w.heap.size, 3, none⟩ = some (.int .i64 f3) ∧ w'.cell? ⟨w.heap.size, 4, none⟩ = some (.int .i64 f4) ∧ w'.cell? ⟨w.heap.size, 5, none⟩ = some (.string f5) ∧ w'.cell? ⟨w.heap.size, 6, none⟩ = some (.string f6)) ∧ (w'.cell? ⟨w.heap.size + 1, 0, none⟩ = some (.int .i64 v.k) ∧ w'.cell? ⟨w.heap.size + 1, 1, none⟩ = some (.int .i64 v.a.x) ∧ w'.cell? ⟨w.heap.size + 1, 2, none⟩ = some (.int .i64 v.a.n) ∧ w'.cell? ⟨w.heap.size + 1, 3, none⟩ = some (.string v.a.t) ∧ w'.cell? ⟨w.heap.size + 1, 4, none⟩ = some (.string v.a.y) ∧ w'.cell? ⟨w.heap.size + 1, 5, none⟩ = some (.slice a1 l1 c1) ∧ w'.cell? ⟨w.heap.size + 1, 6, none⟩ = some (.slice a2 l2 c2))) := hide (fun w' h => have k := (unhide T1').keep h; have j := (unhide V1).keep h; ⟨⟨k.at rfl, k.at rfl, k.at rfl, k.at rfl, k.at rfl, k.at rfl, k.at rfl⟩, ⟨j.at rfl, j.at rfl, j.at rfl, j.at rfl, j.at rfl, j.at rfl, j.at rfl⟩⟩)
    go_wp2_with fail
    clear t0 t1 t2 t3 t4 t5 t6 d1 d4
    go_region_held3 (fun w' => (w'.cell? ⟨w.heap.size, 0, none⟩ = some (.string f0) ∧ w'.cell? ⟨w.heap.size, 1, none⟩ = some (.int .i64 f1) ∧ w'.cell? ⟨w.heap.size, 2, none⟩ = some (.string empB) ∧ w'.cell? ⟨w.heap.size, 3, none⟩ = some (.int .i64 f3) ∧ w'.cell? ⟨w.heap.size, 4, none⟩ = some (.int .i64 f4) ∧ w'.cell? ⟨w.heap.size, 5, none⟩ = some (.string f5) ∧ w'.cell? ⟨w.heap.size, 6, none⟩ = some (.string f6)) ∧ (w'.cell? ⟨w.heap.size + 1, 0, none⟩ = some (.int .i64 v.k) ∧ w'.cell? ⟨w.heap.size + 1, 1, none⟩ = some (.int .i64 v.a.x) ∧ w'.cell? ⟨w.heap.size + 1, 2, none⟩ = some (.int .i64 v.a.n) ∧ w'.cell? ⟨w.heap.size + 1, 3, none⟩ = some (.string v.a.t) ∧ w'.cell? ⟨w.heap.size + 1, 4, none⟩ = some (.string v.a.y) ∧ w'.cell? ⟨w.heap.size + 1, 5, none⟩ = some (.slice a1 l1 c1) ∧ w'.cell? ⟨w.heap.size + 1, 6, none⟩ = some (.slice a2 l2 c2)))
      ((exact unhide QV _ (by (repeat (first | exact Below.refl _ _ | exact unhide C4 | exact unhide C3 | exact unhide C2 | refine Below.drew ?_ | refine bAl ?_ _)); (first | done | fail))))
      (first
        | (go_at_call 83; refine (unhide q2 _ ?_).mono ?_; (exact (unhide HS).keep (by (repeat (first | exact unhide B1 | exact unhide D2 | refine Below.drew ?_ | refine bAl ?_ _)); (first | done | fail))); rintro e w2 ⟨⟨vc, rfl, hvc⟩, hb2⟩; obtain ⟨N1, cp, rfl, en, qc⟩ := hvc; have EN : ∀ (args : Array Value) (w : World), (callFunc N1 args).run Tryz.prog w = .ok (.enter N1 args) w := en; have QC := hide qc; have C2 := hide (bTr (show Below w1.heap.size w1 _ from (by (repeat (first | exact Below.refl _ _ | exact unhide C4 | exact unhide C3 | exact unhide C2 | refine Below.drew ?_ | refine bAl ?_ _)); (first | done | fail))) hb2); have D2 := hide (bTr (unhide B1) (unhide C2)); clear hb2 en qc)
        | (go_at_call 84; refine (unhide q3 (unhide HR) _ ?_ ?_).mono ?_; (exact (unhide HS1).keep (by (repeat (first | exact unhide B1 | exact unhide D2 | refine Below.drew ?_ | refine bAl ?_ _)); (first | done | fail))); (exact (unhide HS2).keep (by (repeat (first | exact unhide B1 | exact unhide D2 | refine Below.drew ?_ | refine bAl ?_ _)); (first | done | fail))); rintro e w3 ⟨⟨bm, n, rfl, hm⟩, hb3⟩; have Q4 := hide (unhide QC w3 bm n (gOf v) (KeptR.below hb3) hm (unhide og)); have C3 := hide (bTr (unhide C2) hb3); have D3 := hide (bTr (unhide D2) hb3); clear hb3 hm)
        | (refine (unhide Q4).mono ?_; rintro e w4 ⟨rfl, hb4⟩; have D4 := hide (bTr (unhide D3) hb4); have C4 := hide (bTr (unhide C3) hb4); clear hb4))
    all_goals go_wp2_with fail
    all_goals go_ret
    all_goals exact ⟨⟨_, rfl, fun _ => unhide HRES, fun h => absurd (unhide YES) h⟩, unhide D4⟩
  · have d2 := notEmp he
    by_cases hz : zAtomT ⟨f0, f1, f2, f3, f4, f5, f6⟩
    · obtain ⟨z3, z4, z5, z6⟩ := hz
      simp only at z3 z4 z5 z6
      subst z3 z4 z5 z6
      clear nz he
      obtain ⟨WA, hWA⟩ : ∃ W, W = w.alloc (.cells #[.string f0, .int .i64 f1, .string f2, .int .i64 0, .int .i64 0, .string empB, .string empB] 58) := ⟨_, rfl⟩
      obtain ⟨W0, hW0⟩ : ∃ W, W = WA.alloc (.cells #[.int .i64 v.k, .int .i64 v.a.x, .int .i64 v.a.n, .string v.a.t, .string v.a.y, .slice a1 l1 c1, .slice a2 l2 c2] 43) := ⟨_, rfl⟩
      have zA' : WA.heap.size = w.heap.size + 1 := by rw [hWA]; simp
      have bA : Below w.heap.size w WA := by rw [hWA]; exact bAl (Below.refl _ _) _
      have b0 : Below WA.heap.size WA W0 := by rw [hW0]; exact bAl (Below.refl _ _) _
      have T0 := hide ((show RowIs WA w.heap.size #[.string f0, .int .i64 f1, .string f2, .int .i64 0, .int .i64 0, .string empB, .string empB] 58 by rw [hWA]; exact RowIs.new _ _ _).keep b0)
      have V0 := hide (show RowIs W0 (w.heap.size + 1) #[.int .i64 v.k, .int .i64 v.a.x, .int .i64 v.a.n, .string v.a.t, .string v.a.y, .slice a1 l1 c1, .slice a2 l2 c2] 43 by rw [hW0, ← zA']; exact RowIs.new _ _ _)
      have B0 := hide (bTr bA b0)
      have HW0 := hide (show (w.alloc (.cells #[.string f0, .int .i64 f1, .string f2, .int .i64 0, .int .i64 0, .string empB, .string empB] 58)).alloc (.cells #[.int .i64 v.k, .int .i64 v.a.x, .int .i64 v.a.n, .string v.a.t, .string v.a.y, .slice a1 l1 c1, .slice a2 l2 c2] 43) = W0 by rw [hW0, hWA])
      clear hWA hW0 zA' bA b0
      go_enter Tryz.func57, Tryz.ntmps57
      go_wp2_with fail
      rw [unhide HW0]
      refine (unhide q1 _ ((unhide HS1).keep (unhide B0)) ((unhide HS2).keep (unhide B0))).mono ?_
      rintro e w1 ⟨⟨b, rfl, hb⟩, hb1⟩
      have HB := hide hb
      have T1 := (unhide T0).keep hb1
      have T1' := hide T1
      have V1 := hide ((unhide V0).keep hb1)
      have B1 := hide (bTr (unhide B0) hb1)
      clear hb hb1 q1 T0 V0 B0 HW0
      have t0 := T1.at (o := 0) (v := .string f0) rfl
      have t1 := T1.at (o := 1) (v := .int .i64 f1) rfl
      have t2 := T1.at (o := 2) (v := .string f2) rfl
      have t3 := T1.at (o := 3) (v := .int .i64 0) rfl
      have t4 := T1.at (o := 4) (v := .int .i64 0) rfl
      have t5 := T1.at (o := 5) (v := .string empB) rfl
      have t6 := T1.at (o := 6) (v := .string empB) rfl
      have zt := T1.lt
      clear T1
      cases b
      · have N : Hid (¬ ASK) := hide (fun h => by have := (unhide HB).2 ((unhide askI).1 h).1; cases this)
        go_wp2_with fail
        go_ret
        exact unhide NO (unhide N) (unhide B1)
      have HR := hide ((unhide HB).1 rfl)
      clear HB
      by_cases o1 : f1 < 1
      · have N : Hid (¬ ASK) := hide (fun h => by have := ((unhide askI).1 h).2.1; omega)
        go_wp2_with fail
        go_ret
        exact unhide NO (unhide N) (unhide B1)
      by_cases o4 : 4 < f1
      · have N : Hid (¬ ASK) := hide (fun h => by have := ((unhide askI).1 h).2.2.1; omega)
        go_wp2_with fail
        go_ret
        exact unhide NO (unhide N) (unhide B1)
      have d1 : decide (f1 < 1) = false := decide_eq_false o1
      have d4 : decide (4 < f1) = false := decide_eq_false o4
      have YES : Hid ASK := hide ((unhide askI).2 ⟨unhide HR, by omega, by omega, .inr ⟨rfl, rfl, rfl, rfl⟩⟩)
      clear o1 o4
      have QV : Hid (∀ w', Below w1.heap.size w1 w' → (w'.cell? ⟨w.heap.size, 0, none⟩ = some (.string f0) ∧ w'.cell? ⟨w.heap.size, 1, none⟩ = some (.int .i64 f1) ∧ w'.cell? ⟨w.heap.size, 2, none⟩ = some (.string f2) ∧ w'.cell? ⟨w.heap.size, 3, none⟩ = some (.int .i64 0) ∧ w'.cell? ⟨w.heap.size, 4, none⟩ = some (.int .i64 0) ∧ w'.cell? ⟨w.heap.size, 5, none⟩ = some (.string empB) ∧ w'.cell? ⟨w.heap.size, 6, none⟩ = some (.string empB)) ∧ (w'.cell? ⟨w.heap.size + 1, 0, none⟩ = some (.int .i64 v.k) ∧ w'.cell? ⟨w.heap.size + 1, 1, none⟩ = some (.int .i64 v.a.x) ∧ w'.cell? ⟨w.heap.size + 1, 2, none⟩ = some (.int .i64 v.a.n) ∧ w'.cell? ⟨w.heap.size + 1, 3, none⟩ = some (.string v.a.t) ∧ w'.cell? ⟨w.heap.size + 1, 4, none⟩ = some (.string v.a.y) ∧ w'.cell? ⟨w.heap.size + 1, 5, none⟩ = some (.slice a1 l1 c1) ∧ w'.cell? ⟨w.heap.size + 1, 6, none⟩ = some (.slice a2 l2 c2))) := hide (fun w' h => have k := (unhide T1').keep h; have j := (unhide V1).keep h; ⟨⟨k.at rfl, k.at rfl, k.at rfl, k.at rfl, k.at rfl, k.at rfl, k.at rfl⟩, ⟨j.at rfl, j.at rfl, j.at rfl, j.at rfl, j.at rfl, j.at rfl, j.at rfl⟩⟩)
      go_wp2_with fail
      clear t0 t1 t2 t3 t4 t5 t6 d1 d4
      go_region_held3 (fun w' => (w'.cell? ⟨w.heap.size, 0, none⟩ = some (.string f0) ∧ w'.cell? ⟨w.heap.size, 1, none⟩ = some (.int .i64 f1) ∧ w'.cell? ⟨w.heap.size, 2, none⟩ = some (.string f2) ∧ w'.cell? ⟨w.heap.size, 3, none⟩ = some (.int .i64 0) ∧ w'.cell? ⟨w.heap.size, 4, none⟩ = some (.int .i64 0) ∧ w'.cell? ⟨w.heap.size, 5, none⟩ = some (.string empB) ∧ w'.cell? ⟨w.heap.size, 6, none⟩ = some (.string empB)) ∧ (w'.cell? ⟨w.heap.size + 1, 0, none⟩ = some (.int .i64 v.k) ∧ w'.cell? ⟨w.heap.size + 1, 1, none⟩ = some (.int .i64 v.a.x) ∧ w'.cell? ⟨w.heap.size + 1, 2, none⟩ = some (.int .i64 v.a.n) ∧ w'.cell? ⟨w.heap.size + 1, 3, none⟩ = some (.string v.a.t) ∧ w'.cell? ⟨w.heap.size + 1, 4, none⟩ = some (.string v.a.y) ∧ w'.cell? ⟨w.heap.size + 1, 5, none⟩ = some (.slice a1 l1 c1) ∧ w'.cell? ⟨w.heap.size + 1, 6, none⟩ = some (.slice a2 l2 c2)))
        ((exact unhide QV _ (by (repeat (first | exact Below.refl _ _ | exact unhide C4 | exact unhide C3 | exact unhide C2 | refine Below.drew ?_ | refine bAl ?_ _)); (first | done | fail))))
        (first
          | (go_at_call 83; refine (unhide q2 _ ?_).mono ?_; (exact (unhide HS).keep (by (repeat (first | exact unhide B1 | exact unhide D2 | refine Below.drew ?_ | refine bAl ?_ _)); (first | done | fail))); rintro e w2 ⟨⟨vc, rfl, hvc⟩, hb2⟩; obtain ⟨N1, cp, rfl, en, qc⟩ := hvc; have EN : ∀ (args : Array Value) (w : World), (callFunc N1 args).run Tryz.prog w = .ok (.enter N1 args) w := en; have QC := hide qc; have C2 := hide (bTr (show Below w1.heap.size w1 _ from (by (repeat (first | exact Below.refl _ _ | exact unhide C4 | exact unhide C3 | exact unhide C2 | refine Below.drew ?_ | refine bAl ?_ _)); (first | done | fail))) hb2); have D2 := hide (bTr (unhide B1) (unhide C2)); clear hb2 en qc)
          | (go_at_call 84; refine (unhide q3 (unhide HR) _ ?_ ?_).mono ?_; (exact (unhide HS1).keep (by (repeat (first | exact unhide B1 | exact unhide D2 | refine Below.drew ?_ | refine bAl ?_ _)); (first | done | fail))); (exact (unhide HS2).keep (by (repeat (first | exact unhide B1 | exact unhide D2 | refine Below.drew ?_ | refine bAl ?_ _)); (first | done | fail))); rintro e w3 ⟨⟨bm, n, rfl, hm⟩, hb3⟩; have Q4 := hide (unhide QC w3 bm n (gOf v) (KeptR.below hb3) hm (unhide og)); have C3 := hide (bTr (unhide C2) hb3); have D3 := hide (bTr (unhide D2) hb3); clear hb3 hm)
          | (refine (unhide Q4).mono ?_; rintro e w4 ⟨rfl, hb4⟩; have D4 := hide (bTr (unhide D3) hb4); have C4 := hide (bTr (unhide C3) hb4); clear hb4))
      all_goals go_wp2_with fail
      all_goals go_ret
      all_goals exact ⟨⟨_, rfl, fun _ => unhide HRES, fun h => absurd (unhide YES) h⟩, unhide D4⟩
    · have N : Hid (¬ ASK) := hide (fun h => by rcases ((unhide askI).1 h).2.2.2 with h | h; exact he h; exact hz h)
      replace nz := nz hz
      simp only at nz
      clear he hz askI q2 q3 HRES
      rcases nz with z3 | ⟨rfl, z4⟩ | ⟨rfl, rfl, z5⟩ | ⟨rfl, rfl, rfl, z6⟩
      · obtain ⟨WA, hWA⟩ : ∃ W, W = w.alloc (.cells #[.string f0, .int .i64 f1, .string f2, .int .i64 f3, .int .i64 f4, .string f5, .string f6] 58) := ⟨_, rfl⟩
        obtain ⟨W0, hW0⟩ : ∃ W, W = WA.alloc (.cells #[.int .i64 v.k, .int .i64 v.a.x, .int .i64 v.a.n, .string v.a.t, .string v.a.y, .slice a1 l1 c1, .slice a2 l2 c2] 43) := ⟨_, rfl⟩
        have bA : Below w.heap.size w WA := by rw [hWA]; exact bAl (Below.refl _ _) _
        have b0 : Below WA.heap.size WA W0 := by rw [hW0]; exact bAl (Below.refl _ _) _
        have T0 := hide ((show RowIs WA w.heap.size #[.string f0, .int .i64 f1, .string f2, .int .i64 f3, .int .i64 f4, .string f5, .string f6] 58 by rw [hWA]; exact RowIs.new _ _ _).keep b0)
        have B0 := hide (bTr bA b0)
        have HW0 := hide (show (w.alloc (.cells #[.string f0, .int .i64 f1, .string f2, .int .i64 f3, .int .i64 f4, .string f5, .string f6] 58)).alloc (.cells #[.int .i64 v.k, .int .i64 v.a.x, .int .i64 v.a.n, .string v.a.t, .string v.a.y, .slice a1 l1 c1, .slice a2 l2 c2] 43) = W0 by rw [hW0, hWA])
        clear hWA hW0 bA b0
        go_enter Tryz.func57, Tryz.ntmps57
        go_wp2_with fail
        rw [unhide HW0]
        refine (unhide q1 _ ((unhide HS1).keep (unhide B0)) ((unhide HS2).keep (unhide B0))).mono ?_
        rintro e w1 ⟨⟨b, rfl, hb⟩, hb1⟩
        have T1 := (unhide T0).keep hb1
        have B1 := hide (bTr (unhide B0) hb1)
        clear hb hb1 q1 T0 B0 HW0
        have t1 := T1.at (o := 1) (v := .int .i64 f1) rfl
        have zt := T1.lt
        clear T1
        cases b
        · go_wp2_with fail
          go_ret
          exact unhide NO (unhide N) (unhide B1)
        by_cases o1 : f1 < 1
        · go_wp2_with fail
          go_ret
          exact unhide NO (unhide N) (unhide B1)
        by_cases o4 : 4 < f1
        · go_wp2_with fail
          go_ret
          exact unhide NO (unhide N) (unhide B1)
        have d1 : decide (f1 < 1) = false := decide_eq_false o1
        have d4 : decide (4 < f1) = false := decide_eq_false o4
        go_wp2_with fail
        go_ret
        exact unhide NO (unhide N) (unhide B1)
      · obtain ⟨WA, hWA⟩ : ∃ W, W = w.alloc (.cells #[.string f0, .int .i64 f1, .string f2, .int .i64 0, .int .i64 f4, .string f5, .string f6] 58) := ⟨_, rfl⟩
        obtain ⟨W0, hW0⟩ : ∃ W, W = WA.alloc (.cells #[.int .i64 v.k, .int .i64 v.a.x, .int .i64 v.a.n, .string v.a.t, .string v.a.y, .slice a1 l1 c1, .slice a2 l2 c2] 43) := ⟨_, rfl⟩
        have bA : Below w.heap.size w WA := by rw [hWA]; exact bAl (Below.refl _ _) _
        have b0 : Below WA.heap.size WA W0 := by rw [hW0]; exact bAl (Below.refl _ _) _
        have T0 := hide ((show RowIs WA w.heap.size #[.string f0, .int .i64 f1, .string f2, .int .i64 0, .int .i64 f4, .string f5, .string f6] 58 by rw [hWA]; exact RowIs.new _ _ _).keep b0)
        have B0 := hide (bTr bA b0)
        have HW0 := hide (show (w.alloc (.cells #[.string f0, .int .i64 f1, .string f2, .int .i64 0, .int .i64 f4, .string f5, .string f6] 58)).alloc (.cells #[.int .i64 v.k, .int .i64 v.a.x, .int .i64 v.a.n, .string v.a.t, .string v.a.y, .slice a1 l1 c1, .slice a2 l2 c2] 43) = W0 by rw [hW0, hWA])
        clear hWA hW0 bA b0
        go_enter Tryz.func57, Tryz.ntmps57
        go_wp2_with fail
        rw [unhide HW0]
        refine (unhide q1 _ ((unhide HS1).keep (unhide B0)) ((unhide HS2).keep (unhide B0))).mono ?_
        rintro e w1 ⟨⟨b, rfl, hb⟩, hb1⟩
        have T1 := (unhide T0).keep hb1
        have B1 := hide (bTr (unhide B0) hb1)
        clear hb hb1 q1 T0 B0 HW0
        have t1 := T1.at (o := 1) (v := .int .i64 f1) rfl
        have zt := T1.lt
        clear T1
        cases b
        · go_wp2_with fail
          go_ret
          exact unhide NO (unhide N) (unhide B1)
        by_cases o1 : f1 < 1
        · go_wp2_with fail
          go_ret
          exact unhide NO (unhide N) (unhide B1)
        by_cases o4 : 4 < f1
        · go_wp2_with fail
          go_ret
          exact unhide NO (unhide N) (unhide B1)
        have d1 : decide (f1 < 1) = false := decide_eq_false o1
        have d4 : decide (4 < f1) = false := decide_eq_false o4
        go_wp2_with fail
        go_ret
        exact unhide NO (unhide N) (unhide B1)
      · obtain ⟨WA, hWA⟩ : ∃ W, W = w.alloc (.cells #[.string f0, .int .i64 f1, .string f2, .int .i64 0, .int .i64 0, .string f5, .string f6] 58) := ⟨_, rfl⟩
        obtain ⟨W0, hW0⟩ : ∃ W, W = WA.alloc (.cells #[.int .i64 v.k, .int .i64 v.a.x, .int .i64 v.a.n, .string v.a.t, .string v.a.y, .slice a1 l1 c1, .slice a2 l2 c2] 43) := ⟨_, rfl⟩
        have bA : Below w.heap.size w WA := by rw [hWA]; exact bAl (Below.refl _ _) _
        have b0 : Below WA.heap.size WA W0 := by rw [hW0]; exact bAl (Below.refl _ _) _
        have T0 := hide ((show RowIs WA w.heap.size #[.string f0, .int .i64 f1, .string f2, .int .i64 0, .int .i64 0, .string f5, .string f6] 58 by rw [hWA]; exact RowIs.new _ _ _).keep b0)
        have B0 := hide (bTr bA b0)
        have HW0 := hide (show (w.alloc (.cells #[.string f0, .int .i64 f1, .string f2, .int .i64 0, .int .i64 0, .string f5, .string f6] 58)).alloc (.cells #[.int .i64 v.k, .int .i64 v.a.x, .int .i64 v.a.n, .string v.a.t, .string v.a.y, .slice a1 l1 c1, .slice a2 l2 c2] 43) = W0 by rw [hW0, hWA])
        clear hWA hW0 bA b0
        go_enter Tryz.func57, Tryz.ntmps57
        go_wp2_with fail
        rw [unhide HW0]
        refine (unhide q1 _ ((unhide HS1).keep (unhide B0)) ((unhide HS2).keep (unhide B0))).mono ?_
        rintro e w1 ⟨⟨b, rfl, hb⟩, hb1⟩
        have T1 := (unhide T0).keep hb1
        have B1 := hide (bTr (unhide B0) hb1)
        clear hb hb1 q1 T0 B0 HW0
        have t1 := T1.at (o := 1) (v := .int .i64 f1) rfl
        have zt := T1.lt
        clear T1
        cases b
        · go_wp2_with fail
          go_ret
          exact unhide NO (unhide N) (unhide B1)
        by_cases o1 : f1 < 1
        · go_wp2_with fail
          go_ret
          exact unhide NO (unhide N) (unhide B1)
        by_cases o4 : 4 < f1
        · go_wp2_with fail
          go_ret
          exact unhide NO (unhide N) (unhide B1)
        have d1 : decide (f1 < 1) = false := decide_eq_false o1
        have d4 : decide (4 < f1) = false := decide_eq_false o4
        go_wp2_with fail
        go_ret
        exact unhide NO (unhide N) (unhide B1)
      · obtain ⟨WA, hWA⟩ : ∃ W, W = w.alloc (.cells #[.string f0, .int .i64 f1, .string f2, .int .i64 0, .int .i64 0, .string empB, .string f6] 58) := ⟨_, rfl⟩
        obtain ⟨W0, hW0⟩ : ∃ W, W = WA.alloc (.cells #[.int .i64 v.k, .int .i64 v.a.x, .int .i64 v.a.n, .string v.a.t, .string v.a.y, .slice a1 l1 c1, .slice a2 l2 c2] 43) := ⟨_, rfl⟩
        have bA : Below w.heap.size w WA := by rw [hWA]; exact bAl (Below.refl _ _) _
        have b0 : Below WA.heap.size WA W0 := by rw [hW0]; exact bAl (Below.refl _ _) _
        have T0 := hide ((show RowIs WA w.heap.size #[.string f0, .int .i64 f1, .string f2, .int .i64 0, .int .i64 0, .string empB, .string f6] 58 by rw [hWA]; exact RowIs.new _ _ _).keep b0)
        have B0 := hide (bTr bA b0)
        have HW0 := hide (show (w.alloc (.cells #[.string f0, .int .i64 f1, .string f2, .int .i64 0, .int .i64 0, .string empB, .string f6] 58)).alloc (.cells #[.int .i64 v.k, .int .i64 v.a.x, .int .i64 v.a.n, .string v.a.t, .string v.a.y, .slice a1 l1 c1, .slice a2 l2 c2] 43) = W0 by rw [hW0, hWA])
        clear hWA hW0 bA b0
        go_enter Tryz.func57, Tryz.ntmps57
        go_wp2_with fail
        rw [unhide HW0]
        refine (unhide q1 _ ((unhide HS1).keep (unhide B0)) ((unhide HS2).keep (unhide B0))).mono ?_
        rintro e w1 ⟨⟨b, rfl, hb⟩, hb1⟩
        have T1 := (unhide T0).keep hb1
        have B1 := hide (bTr (unhide B0) hb1)
        clear hb hb1 q1 T0 B0 HW0
        have t1 := T1.at (o := 1) (v := .int .i64 f1) rfl
        have zt := T1.lt
        clear T1
        cases b
        · go_wp2_with fail
          go_ret
          exact unhide NO (unhide N) (unhide B1)
        by_cases o1 : f1 < 1
        · go_wp2_with fail
          go_ret
          exact unhide NO (unhide N) (unhide B1)
        by_cases o4 : 4 < f1
        · go_wp2_with fail
          go_ret
          exact unhide NO (unhide N) (unhide B1)
        have d1 : decide (f1 < 1) = false := decide_eq_false o1
        have d4 : decide (4 < f1) = false := decide_eq_false o4
        go_wp2_with fail
        go_ret
        exact unhide NO (unhide N) (unhide B1)
end Go.Proofs.YtdflnjjomljgmaaGreatDoor.V
/- What a capability's terms hold, and CheckCap by the program. -/
namespace Go.Proofs.YtdflnjjomljgmaaGreatDoor.D
open Go.RowKit
set_option maxRecDepth 20000

def trR (v : V.ValT) (t : V.CavTermT) : Int := V.termR [⟨t.f0, t.f3⟩] (V.gOf v) t
theorem trR_cases (v : V.ValT) (t : V.CavTermT) : trR v t = 0 ∨ trR v t = 1 ∨ trR v t = 2 := by
  unfold trR V.termR V.tRes V.said
  split
  · split <;> simp
  · simp
def lesI (a b : Int) : Int := if a = 0 ∨ b = 0 then 0 else if a = 2 ∨ b = 2 then 2 else 1
theorem lesI_cases (a b : Int) : lesI a b = 0 ∨ lesI a b = 1 ∨ lesI a b = 2 := by unfold lesI; (repeat' split) <;> simp
def holdI (v : V.ValT) (T : List V.CavTermT) : Int := T.foldl (fun a t => lesI a (trR v t)) 1
theorem holdI_snoc (v : V.ValT) (T : List V.CavTermT) (t : V.CavTermT) : holdI v (T ++ [t]) = lesI (holdI v T) (trR v t) := by simp [holdI]
theorem fold_zero (v : V.ValT) (T : List V.CavTermT) : T.foldl (fun a t => lesI a (trR v t)) 0 = 0 := by
  induction T with
  | nil => rfl
  | cons t T ih => rw [List.foldl_cons]; exact ih
theorem hold_zero (v : V.ValT) (T : List V.CavTermT) (k : Nat) (h : holdI v (T.take k) = 0) : holdI v T = 0 := by
  have e : T = T.take k ++ T.drop k := (List.take_append_drop k T).symm
  unfold holdI at h ⊢
  rw [e, List.foldl_append, h]
  exact fold_zero v _
theorem holdI_cases (v : V.ValT) (T : List V.CavTermT) : holdI v T = 0 ∨ holdI v T = 1 ∨ holdI v T = 2 := by
  rcases List.eq_nil_or_concat T with rfl | ⟨l, t, rfl⟩
  · simp [holdI]
  · rw [List.concat_eq_append, holdI_snoc]; exact lesI_cases _ _
theorem termB_ask {t : V.CavTermT} (h : V.termB t = true) : 1 ≤ t.f1 ∧ t.f1 ≤ 4 ∧ t.f2 = V.empB := by
  unfold V.termB V.opC at h
  simp only [Bool.and_eq_true, Bool.or_eq_true, beq_iff_eq] at h
  obtain ⟨⟨⟨h1, h2⟩, h3⟩, h4⟩ := h
  refine ⟨by omega, by omega, ?_⟩
  have h5 : t.f2.toList = [] := by simpa using h2
  apply ByteArray.ext
  apply Array.toList_inj.1
  rw [ByteArray.toList_eq] at h5
  exact h5
theorem termB_askT {t : V.CavTermT} {v : V.ValT} (h : V.termB t = true) (hr : V.Rec v) : V.askT t v :=
  ⟨hr, (termB_ask h).1, (termB_ask h).2.1, .inl (termB_ask h).2.2⟩
theorem slPar1 {w : World} {b : Nat} {x : ByteArray} {n : Int} {T : TypeId} (h : RowIs w b #[.string x, .int .i64 n] T) : V.SlParam w (some ⟨b, 0, none⟩) 1 [⟨x, n⟩] :=
  ⟨rfl, .inr ⟨b, 0, rfl, h.lt, (fun i hi => by
      have : i = 0 := by simp at hi; omega
      subst this; exact h.at rfl), fun i hi => by
      have : i = 0 := by simp at hi; omega
      subst this; exact h.at rfl⟩⟩
abbrev vC (v : V.ValT) (a1 : Option Addr) (l1 c1 : Nat) (a2 : Option Addr) (l2 c2 : Nat) : Array Value := #[.int .i64 v.k, .int .i64 v.a.x, .int .i64 v.a.n, .string v.a.t, .string v.a.y, .slice a1 l1 c1, .slice a2 l2 c2]
set_option maxHeartbeats 2000000 in
theorem holds_any (id : ByteArray) (at' ag : Option Addr) (lt ct lg cg : Nat) (T : List V.CavTermT) (v : V.ValT) (hv : v.Ok) (a1 a2 : Option Addr) (l1 c1 l2 c2 : Nat) (w : World) (hl : lt ≤ 1048576) (hs : V.SlCavTerm w at' lt T) (ok : ∀ q ∈ T, V.CavTermT.Ok q) (ht : ∀ t ∈ T, V.termB t = true) (hr : V.Rec v) (hl1 : l1 ≤ maxLen) (hs1 : V.SlA w a1 l1 v.items) (hs2 : V.SlS w a2 l2 v.names) :
    Calls Tryz.prog 33 #[V.capV id at' ag lt ct lg cg, V.vAgg v a1 l1 c1 a2 l2 c2] w fun e w' => e = .returned (.int .i64 (holdI v T)) ∧ Below w.heap.size w w' := by
  obtain ⟨W0, hW0⟩ : ∃ W, W = w.alloc (.cells (V.capC id at' ag lt ct lg cg) 38) := ⟨_, rfl⟩
  obtain ⟨W, hW⟩ : ∃ W, W = W0.alloc (.cells (vC v a1 l1 c1 a2 l2 c2) 43) := ⟨_, rfl⟩
  have z0 : W0.heap.size = w.heap.size + 1 := by rw [hW0]; simp
  have B0 : Below w.heap.size w W0 := by rw [hW0]; exact bAl (Below.refl _ _) _
  have b1 : Below W0.heap.size W0 W := by rw [hW]; exact bAl (Below.refl _ _) _
  have B := hide (bTr B0 b1)
  have R := hide ((show RowIs W0 w.heap.size (V.capC id at' ag lt ct lg cg) 38 by rw [hW0]; exact RowIs.new _ _ _).keep b1)
  have RV := hide (show RowIs W (w.heap.size + 1) (vC v a1 l1 c1 a2 l2 c2) 43 by rw [hW, ← z0]; exact RowIs.new _ _ _)
  have S := hide (hs.keep (unhide B))
  have S1 := hide (hs1.keep (unhide B))
  have S2 := hide (hs2.keep (unhide B))
  have HLL := hide hs.1
  have HO := hide ok
  have HT := hide ht
  have HR := hide hr
  have HV := hide hv
  have HL1 := hide hl1
  have LL : lt ≤ 1048576 := hl
  rw [hW0] at hW
  have HW := hide hW.symm
  clear hW hW0 hs hs1 hs2 ok ht hr hv hl1 hl b1 B0 z0 W0
  have x1 := (unhide R).at (o := 1) (v := .slice at' lt ct) rfl
  have zx := (unhide R).lt
  obtain ⟨RES, hRES⟩ : ∃ x, x = holdI v T := ⟨_, rfl⟩
  rw [← hRES]
  have HRES := hide hRES
  clear hRES
  go_enter Tryz.func33, Tryz.ntmps33
  go_upto_region 1 with fail
  rw [unhide HW]
  go_wp2_with fail
  clear x1 zx HW
  go_loopw [5, 11] (fun o i w' => ∃ (k : Nat), k ≤ lt ∧ i = .int .i64 k ∧ o = .int .i64 (holdI v (T.take k)) ∧ Hid (holdI v (T.take k) ≠ 0) ∧ Hid (Below W.heap.size W w')) (fun _ i _ => lt - (Go.RowKit.intOf i).toNat)
  case atStart => exact ⟨0, Nat.zero_le _, rfl, rfl, hide (by simp [holdI]), hide (Below.refl _ _)⟩
  case round =>
    obtain ⟨k, hk, rfl, rfl, hz, hb⟩ := hrel
    by_cases hlt : k < lt
    · have hk' : k < T.length := by have := unhide HLL; omega
      obtain ⟨bb_, off, e0, hrow⟩ := ((unhide S).keep (unhide hb)).at hlt
      subst e0
      have d0 := hrow.c0 k hk'
      have d1 := hrow.c1 k hk'
      have d2 := hrow.c2 k hk'
      have d3 := hrow.c3 k hk'
      have d4 := hrow.c4 k hk'
      have d5 := hrow.c5 k hk'
      have d6 := hrow.c6 k hk'
      have zk := hrow.z
      have HS := hide (show holdI v (T.take (k + 1)) = lesI (holdI v (T.take k)) (trR v T[k]) by rw [List.take_succ_eq_append_getElem hk', holdI_snoc])
      have HA := hide (termB_askT (unhide HT _ (List.getElem_mem hk')) (unhide HR))
      have OA := hide (unhide HO _ (List.getElem_mem hk'))
      have HC := hide (trR_cases v T[k])
      have HZ := hide (hold_zero v T (k + 1))
      have HCC := hide (holdI_cases v (T.take k))
      clear hrow
      generalize T[k] = A at *
      generalize holdI v (T.take k) = H0 at *
      obtain ⟨W2, hW2⟩ : ∃ W2, W2 = wr.alloc (.cells #[.string A.f0, .int .i64 A.f1, .string A.f2, .int .i64 A.f3, .int .i64 A.f4, .string A.f5, .string A.f6] 58) := ⟨_, rfl⟩
      have bW := hide (show Below wr.heap.size wr W2 by rw [hW2]; exact bAl (Below.refl _ _) _)
      have R2 := show RowIs W2 wr.heap.size #[.string A.f0, .int .i64 A.f1, .string A.f2, .int .i64 A.f3, .int .i64 A.f4, .string A.f5, .string A.f6] 58 by rw [hW2]; exact RowIs.new _ _ _
      have HW2 := hide hW2.symm
      have B2 := hide (bTr (unhide hb) (unhide bW))
      have x0 := R2.at (o := 0) (v := .string A.f0) rfl
      have x1 := R2.at (o := 1) (v := .int .i64 A.f1) rfl
      have x2 := R2.at (o := 2) (v := .string A.f2) rfl
      have x3 := R2.at (o := 3) (v := .int .i64 A.f3) rfl
      have x4 := R2.at (o := 4) (v := .int .i64 A.f4) rfl
      have x5 := R2.at (o := 5) (v := .string A.f5) rfl
      have x6 := R2.at (o := 6) (v := .string A.f6) rfl
      have zx := R2.lt
      have q := hide (fun W' c (hb' : Below W2.heap.size W2 W') hp => V.iTermHolds_any A v (some ⟨W2.heap.size, 0, none⟩) a1 a2 1 c l1 c1 l2 c2 [⟨A.f0, A.f3⟩] W' (unhide OA) (unhide HV) (by omega) (unhide HL1) hp ((unhide S1).keep (bTr (unhide B2) hb')) ((unhide S2).keep (bTr (unhide B2) hb')))
      have RV2 := (unhide RV).keep (unhide B2)
      have y0 := RV2.at (o := 0) (v := .int .i64 v.k) rfl
      have y1 := RV2.at (o := 1) (v := .int .i64 v.a.x) rfl
      have y2 := RV2.at (o := 2) (v := .int .i64 v.a.n) rfl
      have y3 := RV2.at (o := 3) (v := .string v.a.t) rfl
      have y4 := RV2.at (o := 4) (v := .string v.a.y) rfl
      have y5 := RV2.at (o := 5) (v := .slice a1 l1 c1) rfl
      have y6 := RV2.at (o := 6) (v := .slice a2 l2 c2) rfl
      have zy := RV2.lt
      clear hW2 R2 RV2
      go_upto_region 5 with fail
      rw [unhide HW2]
      clear HW2 d0 d1 d2 d3 d4 d5 d6 zk
      go_wp2_with fail
      have bP := hide (bAl (Below.refl W2.heap.size W2) (.cells #[.string A.f0, .int .i64 A.f3] 62))
      refine (unhide q _ 1 (unhide bP) (slPar1 (RowIs.new W2 _ _))).mono ?_
      rintro e w3 ⟨⟨r, rfl, hr1, _⟩, hb3⟩
      have er := hide (show r = trR v A from hr1 (unhide HA))
      have B3 := hide (bTr (unhide B2) (bTr (unhide bP) hb3))
      clear hb3 hr1 q x0 x1 x2 x3 x4 x5 x6 zx y0 y1 y2 y3 y4 y5 y6 zy bP bW
      rw [← unhide er] at HS HC
      clear er
      rcases unhide HC with rfl | rfl | rfl
      · clear HC
        go_wp2_with fail
        go_ret
        exact ⟨by rw [unhide HRES, unhide HZ (by rw [unhide HS]; simp [lesI])]; rfl, bTr (unhide B) (unhide B3)⟩
      · clear HC
        go_wp2_with fail
        have e1 : lesI H0 1 = H0 := by (rcases unhide HCC with h | h | h) <;> first | exact absurd h (unhide hz) | simp [lesI, h]
        rw [e1] at HS
        exact ⟨⟨k + 1, by omega, by go_num, by rw [unhide HS], hide (by rw [unhide HS]; exact unhide hz), B3⟩, by simp [Go.RowKit.intOf]; omega⟩
      · clear HC
        go_wp2_with fail
        have e1 : lesI H0 2 = 2 := by have := unhide hz; simp [lesI, this]
        rw [e1] at HS
        exact ⟨⟨k + 1, by omega, by go_num, by rw [unhide HS], hide (by rw [unhide HS]; simp), B3⟩, by simp [Go.RowKit.intOf]; omega⟩
    · have ek : T.take k = T := List.take_of_length_le (by have := unhide HLL; omega)
      rw [ek] at hz ⊢
      go_wp2_with fail
      go_ret
      exact ⟨by rw [unhide HRES]; rfl, bTr (unhide B) (unhide hb)⟩
end Go.Proofs.YtdflnjjomljgmaaGreatDoor.D
