/- impl.TermHolds. -/
import Derived.Test.YtmkgehcfdcoliaaRGiv
import Derived.Test.YtmkgehcfdcoliaaRCoo
import Derived.Deep.RegionHeld3
namespace Go.Proofs.Ytmkgehcfdcoliaa.V
open Go.RowKit Go.Maps

set_option maxRecDepth 20000 in
set_option maxHeartbeats 1000000 in
theorem iTermHolds_any (t : CavTermT) (v : ValT) (a a1 a2 : Option Addr) (len cap l1 c1 l2 c2 : Nat) (l : List ParamT) (w : World) (ht : t.Ok) (hv : v.Ok) (hlen : len ≤ 1048576) (hl1 : l1 ≤ maxLen) (hs : SlParam w a len l) (hs1 : SlA w a1 l1 v.items) (hs2 : SlS w a2 l2 v.names) :
    Calls Try.prog 17 #[tAgg t, .slice a len cap, vAgg v a1 l1 c1 a2 l2 c2] w fun e w' => (∃ r : Int, e = .returned (.int .i64 r) ∧ (askT t v → r = termR l (gOf v) t) ∧ (¬ askT t v → r = -1)) ∧ Below w.heap.size w w' := by
  have HS := hide hs
  have HS1 := hide hs1
  have HS2 := hide hs2
  have q1 := hide (fun w hs1 hs2 => isGiven_any v hv a1 a2 l1 c1 l2 c2 w hl1 hs1 hs2)
  have q2 := hide (fun w hs => termCond_any t a len cap l w hlen ht hs)
  have q3 := hide (fun hr w hs1 hs2 => givenAtomsOf_any v hv hr a1 a2 l1 c1 l2 c2 w hs1 hs2)
  have og := hide (gOf_ok hv)
  clear hs hs1 hs2 hlen hl1 hv ht
  generalize hRES : termR l (gOf v) t = RES
  have HRES := hide hRES
  clear hRES
  obtain ⟨f0, f1, f2, f3, f4, f5, f6⟩ := t
  have askI : Hid (askT ⟨f0, f1, f2, f3, f4, f5, f6⟩ v ↔ (Rec v ∧ 1 ≤ f1 ∧ f1 ≤ 4 ∧ (f2 = empB ∨ zAtomT ⟨f0, f1, f2, f3, f4, f5, f6⟩))) := hide Iff.rfl
  have nz := @notZ ⟨f0, f1, f2, f3, f4, f5, f6⟩
  generalize askT ⟨f0, f1, f2, f3, f4, f5, f6⟩ v = ASK at *
  have NO : Hid (∀ {W : World}, ¬ ASK → Below w.heap.size w W → (∃ r : Int, Ending.returned (.int .i64 (-1)) = .returned (.int .i64 r) ∧ (ASK → r = RES) ∧ (¬ ASK → r = -1)) ∧ Below w.heap.size w W) := hide (fun h k => ⟨⟨-1, rfl, fun h' => absurd h' h, fun _ => rfl⟩, k⟩)
  simp only [tAgg] at q2 ⊢
  by_cases he : f2 = empB
  · subst he
    clear nz
    have ie := isEmp
    obtain ⟨WA, hWA⟩ : ∃ W, W = w.alloc (.cells #[.string f0, .int .i64 f1, .string empB, .int .i64 f3, .int .i64 f4, .string f5, .string f6] 49) := ⟨_, rfl⟩
    obtain ⟨W0, hW0⟩ : ∃ W, W = WA.alloc (.cells #[.int .i64 v.k, .int .i64 v.a.x, .int .i64 v.a.n, .string v.a.t, .string v.a.y, .slice a1 l1 c1, .slice a2 l2 c2] 54) := ⟨_, rfl⟩
    have zA' : WA.heap.size = w.heap.size + 1 := by rw [hWA]; simp
    have bA : Below w.heap.size w WA := by rw [hWA]; exact bAl (Below.refl _ _) _
    have b0 : Below WA.heap.size WA W0 := by rw [hW0]; exact bAl (Below.refl _ _) _
    have T0 := hide ((show RowIs WA w.heap.size #[.string f0, .int .i64 f1, .string empB, .int .i64 f3, .int .i64 f4, .string f5, .string f6] 49 by rw [hWA]; exact RowIs.new _ _ _).keep b0)
    have V0 := hide (show RowIs W0 (w.heap.size + 1) #[.int .i64 v.k, .int .i64 v.a.x, .int .i64 v.a.n, .string v.a.t, .string v.a.y, .slice a1 l1 c1, .slice a2 l2 c2] 54 by rw [hW0, ← zA']; exact RowIs.new _ _ _)
    have B0 := hide (bTr bA b0)
    have HW0 := hide (show (w.alloc (.cells #[.string f0, .int .i64 f1, .string empB, .int .i64 f3, .int .i64 f4, .string f5, .string f6] 49)).alloc (.cells #[.int .i64 v.k, .int .i64 v.a.x, .int .i64 v.a.n, .string v.a.t, .string v.a.y, .slice a1 l1 c1, .slice a2 l2 c2] 54) = W0 by rw [hW0, hWA])
    clear hWA hW0 zA' bA b0
    go_enter Try.func17, Try.ntmps17
    go_wp2_with fail
    rw [unhide HW0]
    refine (unhide q1 _ ((unhide HS1).keep (unhide B0)) ((unhide HS2).keep (unhide B0))).mono ?_
    rintro e w1 ⟨⟨b, rfl, hb⟩, hb1⟩
    have HB := hide hb
    have T1 := (unhide T0).keep hb1
    have T1' := hide T1
    have V1 := hide ((unhide V0).keep hb1)
    have B1 := hide (bTr (unhide B0) hb1)
    clear hb hb1 q1 T0 V0 B0 HW0
    have t0 := T1.at (o := 0) (v := .string f0) rfl
    have t1 := T1.at (o := 1) (v := .int .i64 f1) rfl
    have t2 := T1.at (o := 2) (v := .string empB) rfl
    have t3 := T1.at (o := 3) (v := .int .i64 f3) rfl
    have t4 := T1.at (o := 4) (v := .int .i64 f4) rfl
    have t5 := T1.at (o := 5) (v := .string f5) rfl
    have t6 := T1.at (o := 6) (v := .string f6) rfl
    have zt := T1.lt
    clear T1
    cases b
    · have N : Hid (¬ ASK) := hide (fun h => by have := (unhide HB).2 ((unhide askI).1 h).1; cases this)
      go_wp2_with fail
      go_ret
      exact unhide NO (unhide N) (unhide B1)
    have HR := hide ((unhide HB).1 rfl)
    clear HB
    by_cases o1 : f1 < 1
    · have N : Hid (¬ ASK) := hide (fun h => by have := ((unhide askI).1 h).2.1; omega)
      go_wp2_with fail
      go_ret
      exact unhide NO (unhide N) (unhide B1)
    by_cases o4 : 4 < f1
    · have N : Hid (¬ ASK) := hide (fun h => by have := ((unhide askI).1 h).2.2.1; omega)
      go_wp2_with fail
      go_ret
      exact unhide NO (unhide N) (unhide B1)
    have d1 : decide (f1 < 1) = false := decide_eq_false o1
    have d4 : decide (4 < f1) = false := decide_eq_false o4
    have YES : Hid ASK := hide ((unhide askI).2 ⟨unhide HR, by omega, by omega, .inl (by simp)⟩)
    clear o1 o4
    have QV : Hid (∀ w', Below w1.heap.size w1 w' → (w'.cell? ⟨w.heap.size, 0, none⟩ = some (.string f0) ∧ w'.cell? ⟨w.heap.size, 1, none⟩ = some (.int .i64 f1) ∧ w'.cell? ⟨w.heap.size, 2, none⟩ = some (.string empB) ∧ w'.cell? ⟨w.heap.size, 3, none⟩ = some (.int .i64 f3) ∧ w'.cell? ⟨w.heap.size, 4, none⟩ = some (.int .i64 f4) ∧ w'.cell? ⟨w.heap.size, 5, none⟩ = some (.string f5) ∧ w'.cell? ⟨w.heap.size, 6, none⟩ = some (.string f6)) ∧ (w'.cell? ⟨w.heap.size + 1, 0, none⟩ = some (.int .i64 v.k) ∧ w'.cell? ⟨w.heap.size + 1, 1, none⟩ = some (.int .i64 v.a.x) ∧ w'.cell? ⟨w.heap.size + 1, 2, none⟩ = some (.int .i64 v.a.n) ∧ w'.cell? ⟨w.heap.size + 1, 3, none⟩ = some (.string v.a.t) ∧ w'.cell? ⟨w.heap.size + 1, 4, none⟩ = some (.string v.a.y) ∧ w'.cell? ⟨w.heap.size + 1, 5, none⟩ = some (.slice a1 l1 c1) ∧ w'.cell? ⟨w.heap.size + 1, 6, none⟩ = some (.slice a2 l2 c2))) := hide (fun w' h => have k := (unhide T1').keep h; have j := (unhide V1).keep h; ⟨⟨k.at rfl, k.at rfl, k.at rfl, k.at rfl, k.at rfl, k.at rfl, k.at rfl⟩, ⟨j.at rfl, j.at rfl, j.at rfl, j.at rfl, j.at rfl, j.at rfl, j.at rfl⟩⟩)
    go_wp2_with fail
    clear t0 t1 t2 t3 t4 t5 t6 d1 d4
    go_region_held3 (fun w' => (w'.cell? ⟨w.heap.size, 0, none⟩ = some (.string f0) ∧ w'.cell? ⟨w.heap.size, 1, none⟩ = some (.int .i64 f1) ∧ w'.cell? ⟨w.heap.size, 2, none⟩ = some (.string empB) ∧ w'.cell? ⟨w.heap.size, 3, none⟩ = some (.int .i64 f3) ∧ w'.cell? ⟨w.heap.size, 4, none⟩ = some (.int .i64 f4) ∧ w'.cell? ⟨w.heap.size, 5, none⟩ = some (.string f5) ∧ w'.cell? ⟨w.heap.size, 6, none⟩ = some (.string f6)) ∧ (w'.cell? ⟨w.heap.size + 1, 0, none⟩ = some (.int .i64 v.k) ∧ w'.cell? ⟨w.heap.size + 1, 1, none⟩ = some (.int .i64 v.a.x) ∧ w'.cell? ⟨w.heap.size + 1, 2, none⟩ = some (.int .i64 v.a.n) ∧ w'.cell? ⟨w.heap.size + 1, 3, none⟩ = some (.string v.a.t) ∧ w'.cell? ⟨w.heap.size + 1, 4, none⟩ = some (.string v.a.y) ∧ w'.cell? ⟨w.heap.size + 1, 5, none⟩ = some (.slice a1 l1 c1) ∧ w'.cell? ⟨w.heap.size + 1, 6, none⟩ = some (.slice a2 l2 c2)))
      ((exact unhide QV _ (by (repeat (first | exact Below.refl _ _ | exact unhide C4 | exact unhide C3 | exact unhide C2 | refine Below.drew ?_ | refine bAl ?_ _)); (first | done | fail))))
      (first
        | (go_at_call 42; refine (unhide q2 _ ?_).mono ?_; (exact (unhide HS).keep (by (repeat (first | exact unhide B1 | exact unhide D2 | refine Below.drew ?_ | refine bAl ?_ _)); (first | done | fail))); rintro e w2 ⟨⟨vc, rfl, hvc⟩, hb2⟩; obtain ⟨N1, cp, rfl, en, qc⟩ := hvc; have EN : ∀ (args : Array Value) (w : World), (callFunc N1 args).run Try.prog w = .ok (.enter N1 args) w := en; have QC := hide qc; have C2 := hide (bTr (show Below w1.heap.size w1 _ from (by (repeat (first | exact Below.refl _ _ | exact unhide C4 | exact unhide C3 | exact unhide C2 | refine Below.drew ?_ | refine bAl ?_ _)); (first | done | fail))) hb2); have D2 := hide (bTr (unhide B1) (unhide C2)); clear hb2 en qc)
        | (go_at_call 43; refine (unhide q3 (unhide HR) _ ?_ ?_).mono ?_; (exact (unhide HS1).keep (by (repeat (first | exact unhide B1 | exact unhide D2 | refine Below.drew ?_ | refine bAl ?_ _)); (first | done | fail))); (exact (unhide HS2).keep (by (repeat (first | exact unhide B1 | exact unhide D2 | refine Below.drew ?_ | refine bAl ?_ _)); (first | done | fail))); rintro e w3 ⟨⟨bm, n, rfl, hm⟩, hb3⟩; have Q4 := hide (unhide QC w3 bm n (gOf v) (KeptR.below hb3) hm (unhide og)); have C3 := hide (bTr (unhide C2) hb3); have D3 := hide (bTr (unhide D2) hb3); clear hb3 hm)
        | (refine (unhide Q4).mono ?_; rintro e w4 ⟨rfl, hb4⟩; have D4 := hide (bTr (unhide D3) hb4); have C4 := hide (bTr (unhide C3) hb4); clear hb4))
    all_goals go_wp2_with fail
    all_goals go_ret
    all_goals exact ⟨⟨_, rfl, fun _ => unhide HRES, fun h => absurd (unhide YES) h⟩, unhide D4⟩
  · have d2 := notEmp he
    by_cases hz : zAtomT ⟨f0, f1, f2, f3, f4, f5, f6⟩
    · obtain ⟨z3, z4, z5, z6⟩ := hz
      simp only at z3 z4 z5 z6
      subst z3 z4 z5 z6
      clear nz he
      obtain ⟨WA, hWA⟩ : ∃ W, W = w.alloc (.cells #[.string f0, .int .i64 f1, .string f2, .int .i64 0, .int .i64 0, .string empB, .string empB] 49) := ⟨_, rfl⟩
      obtain ⟨W0, hW0⟩ : ∃ W, W = WA.alloc (.cells #[.int .i64 v.k, .int .i64 v.a.x, .int .i64 v.a.n, .string v.a.t, .string v.a.y, .slice a1 l1 c1, .slice a2 l2 c2] 54) := ⟨_, rfl⟩
      have zA' : WA.heap.size = w.heap.size + 1 := by rw [hWA]; simp
      have bA : Below w.heap.size w WA := by rw [hWA]; exact bAl (Below.refl _ _) _
      have b0 : Below WA.heap.size WA W0 := by rw [hW0]; exact bAl (Below.refl _ _) _
      have T0 := hide ((show RowIs WA w.heap.size #[.string f0, .int .i64 f1, .string f2, .int .i64 0, .int .i64 0, .string empB, .string empB] 49 by rw [hWA]; exact RowIs.new _ _ _).keep b0)
      have V0 := hide (show RowIs W0 (w.heap.size + 1) #[.int .i64 v.k, .int .i64 v.a.x, .int .i64 v.a.n, .string v.a.t, .string v.a.y, .slice a1 l1 c1, .slice a2 l2 c2] 54 by rw [hW0, ← zA']; exact RowIs.new _ _ _)
      have B0 := hide (bTr bA b0)
      have HW0 := hide (show (w.alloc (.cells #[.string f0, .int .i64 f1, .string f2, .int .i64 0, .int .i64 0, .string empB, .string empB] 49)).alloc (.cells #[.int .i64 v.k, .int .i64 v.a.x, .int .i64 v.a.n, .string v.a.t, .string v.a.y, .slice a1 l1 c1, .slice a2 l2 c2] 54) = W0 by rw [hW0, hWA])
      clear hWA hW0 zA' bA b0
      go_enter Try.func17, Try.ntmps17
      go_wp2_with fail
      rw [unhide HW0]
      refine (unhide q1 _ ((unhide HS1).keep (unhide B0)) ((unhide HS2).keep (unhide B0))).mono ?_
      rintro e w1 ⟨⟨b, rfl, hb⟩, hb1⟩
      have HB := hide hb
      have T1 := (unhide T0).keep hb1
      have T1' := hide T1
      have V1 := hide ((unhide V0).keep hb1)
      have B1 := hide (bTr (unhide B0) hb1)
      clear hb hb1 q1 T0 V0 B0 HW0
      have t0 := T1.at (o := 0) (v := .string f0) rfl
      have t1 := T1.at (o := 1) (v := .int .i64 f1) rfl
      have t2 := T1.at (o := 2) (v := .string f2) rfl
      have t3 := T1.at (o := 3) (v := .int .i64 0) rfl
      have t4 := T1.at (o := 4) (v := .int .i64 0) rfl
      have t5 := T1.at (o := 5) (v := .string empB) rfl
      have t6 := T1.at (o := 6) (v := .string empB) rfl
      have zt := T1.lt
      clear T1
      cases b
      · have N : Hid (¬ ASK) := hide (fun h => by have := (unhide HB).2 ((unhide askI).1 h).1; cases this)
        go_wp2_with fail
        go_ret
        exact unhide NO (unhide N) (unhide B1)
      have HR := hide ((unhide HB).1 rfl)
      clear HB
      by_cases o1 : f1 < 1
      · have N : Hid (¬ ASK) := hide (fun h => by have := ((unhide askI).1 h).2.1; omega)
        go_wp2_with fail
        go_ret
        exact unhide NO (unhide N) (unhide B1)
      by_cases o4 : 4 < f1
      · have N : Hid (¬ ASK) := hide (fun h => by have := ((unhide askI).1 h).2.2.1; omega)
        go_wp2_with fail
        go_ret
        exact unhide NO (unhide N) (unhide B1)
      have d1 : decide (f1 < 1) = false := decide_eq_false o1
      have d4 : decide (4 < f1) = false := decide_eq_false o4
      have YES : Hid ASK := hide ((unhide askI).2 ⟨unhide HR, by omega, by omega, .inr ⟨rfl, rfl, rfl, rfl⟩⟩)
      clear o1 o4
      have QV : Hid (∀ w', Below w1.heap.size w1 w' → (w'.cell? ⟨w.heap.size, 0, none⟩ = some (.string f0) ∧ w'.cell? ⟨w.heap.size, 1, none⟩ = some (.int .i64 f1) ∧ w'.cell? ⟨w.heap.size, 2, none⟩ = some (.string f2) ∧ w'.cell? ⟨w.heap.size, 3, none⟩ = some (.int .i64 0) ∧ w'.cell? ⟨w.heap.size, 4, none⟩ = some (.int .i64 0) ∧ w'.cell? ⟨w.heap.size, 5, none⟩ = some (.string empB) ∧ w'.cell? ⟨w.heap.size, 6, none⟩ = some (.string empB)) ∧ (w'.cell? ⟨w.heap.size + 1, 0, none⟩ = some (.int .i64 v.k) ∧ w'.cell? ⟨w.heap.size + 1, 1, none⟩ = some (.int .i64 v.a.x) ∧ w'.cell? ⟨w.heap.size + 1, 2, none⟩ = some (.int .i64 v.a.n) ∧ w'.cell? ⟨w.heap.size + 1, 3, none⟩ = some (.string v.a.t) ∧ w'.cell? ⟨w.heap.size + 1, 4, none⟩ = some (.string v.a.y) ∧ w'.cell? ⟨w.heap.size + 1, 5, none⟩ = some (.slice a1 l1 c1) ∧ w'.cell? ⟨w.heap.size + 1, 6, none⟩ = some (.slice a2 l2 c2))) := hide (fun w' h => have k := (unhide T1').keep h; have j := (unhide V1).keep h; ⟨⟨k.at rfl, k.at rfl, k.at rfl, k.at rfl, k.at rfl, k.at rfl, k.at rfl⟩, ⟨j.at rfl, j.at rfl, j.at rfl, j.at rfl, j.at rfl, j.at rfl, j.at rfl⟩⟩)
      go_wp2_with fail
      clear t0 t1 t2 t3 t4 t5 t6 d1 d4
      go_region_held3 (fun w' => (w'.cell? ⟨w.heap.size, 0, none⟩ = some (.string f0) ∧ w'.cell? ⟨w.heap.size, 1, none⟩ = some (.int .i64 f1) ∧ w'.cell? ⟨w.heap.size, 2, none⟩ = some (.string f2) ∧ w'.cell? ⟨w.heap.size, 3, none⟩ = some (.int .i64 0) ∧ w'.cell? ⟨w.heap.size, 4, none⟩ = some (.int .i64 0) ∧ w'.cell? ⟨w.heap.size, 5, none⟩ = some (.string empB) ∧ w'.cell? ⟨w.heap.size, 6, none⟩ = some (.string empB)) ∧ (w'.cell? ⟨w.heap.size + 1, 0, none⟩ = some (.int .i64 v.k) ∧ w'.cell? ⟨w.heap.size + 1, 1, none⟩ = some (.int .i64 v.a.x) ∧ w'.cell? ⟨w.heap.size + 1, 2, none⟩ = some (.int .i64 v.a.n) ∧ w'.cell? ⟨w.heap.size + 1, 3, none⟩ = some (.string v.a.t) ∧ w'.cell? ⟨w.heap.size + 1, 4, none⟩ = some (.string v.a.y) ∧ w'.cell? ⟨w.heap.size + 1, 5, none⟩ = some (.slice a1 l1 c1) ∧ w'.cell? ⟨w.heap.size + 1, 6, none⟩ = some (.slice a2 l2 c2)))
        ((exact unhide QV _ (by (repeat (first | exact Below.refl _ _ | exact unhide C4 | exact unhide C3 | exact unhide C2 | refine Below.drew ?_ | refine bAl ?_ _)); (first | done | fail))))
        (first
          | (go_at_call 42; refine (unhide q2 _ ?_).mono ?_; (exact (unhide HS).keep (by (repeat (first | exact unhide B1 | exact unhide D2 | refine Below.drew ?_ | refine bAl ?_ _)); (first | done | fail))); rintro e w2 ⟨⟨vc, rfl, hvc⟩, hb2⟩; obtain ⟨N1, cp, rfl, en, qc⟩ := hvc; have EN : ∀ (args : Array Value) (w : World), (callFunc N1 args).run Try.prog w = .ok (.enter N1 args) w := en; have QC := hide qc; have C2 := hide (bTr (show Below w1.heap.size w1 _ from (by (repeat (first | exact Below.refl _ _ | exact unhide C4 | exact unhide C3 | exact unhide C2 | refine Below.drew ?_ | refine bAl ?_ _)); (first | done | fail))) hb2); have D2 := hide (bTr (unhide B1) (unhide C2)); clear hb2 en qc)
          | (go_at_call 43; refine (unhide q3 (unhide HR) _ ?_ ?_).mono ?_; (exact (unhide HS1).keep (by (repeat (first | exact unhide B1 | exact unhide D2 | refine Below.drew ?_ | refine bAl ?_ _)); (first | done | fail))); (exact (unhide HS2).keep (by (repeat (first | exact unhide B1 | exact unhide D2 | refine Below.drew ?_ | refine bAl ?_ _)); (first | done | fail))); rintro e w3 ⟨⟨bm, n, rfl, hm⟩, hb3⟩; have Q4 := hide (unhide QC w3 bm n (gOf v) (KeptR.below hb3) hm (unhide og)); have C3 := hide (bTr (unhide C2) hb3); have D3 := hide (bTr (unhide D2) hb3); clear hb3 hm)
          | (refine (unhide Q4).mono ?_; rintro e w4 ⟨rfl, hb4⟩; have D4 := hide (bTr (unhide D3) hb4); have C4 := hide (bTr (unhide C3) hb4); clear hb4))
      all_goals go_wp2_with fail
      all_goals go_ret
      all_goals exact ⟨⟨_, rfl, fun _ => unhide HRES, fun h => absurd (unhide YES) h⟩, unhide D4⟩
    · have N : Hid (¬ ASK) := hide (fun h => by rcases ((unhide askI).1 h).2.2.2 with h | h; exact he h; exact hz h)
      replace nz := nz hz
      simp only at nz
      clear he hz askI q2 q3 HRES
      rcases nz with z3 | ⟨rfl, z4⟩ | ⟨rfl, rfl, z5⟩ | ⟨rfl, rfl, rfl, z6⟩
      · obtain ⟨WA, hWA⟩ : ∃ W, W = w.alloc (.cells #[.string f0, .int .i64 f1, .string f2, .int .i64 f3, .int .i64 f4, .string f5, .string f6] 49) := ⟨_, rfl⟩
        obtain ⟨W0, hW0⟩ : ∃ W, W = WA.alloc (.cells #[.int .i64 v.k, .int .i64 v.a.x, .int .i64 v.a.n, .string v.a.t, .string v.a.y, .slice a1 l1 c1, .slice a2 l2 c2] 54) := ⟨_, rfl⟩
        have bA : Below w.heap.size w WA := by rw [hWA]; exact bAl (Below.refl _ _) _
        have b0 : Below WA.heap.size WA W0 := by rw [hW0]; exact bAl (Below.refl _ _) _
        have T0 := hide ((show RowIs WA w.heap.size #[.string f0, .int .i64 f1, .string f2, .int .i64 f3, .int .i64 f4, .string f5, .string f6] 49 by rw [hWA]; exact RowIs.new _ _ _).keep b0)
        have B0 := hide (bTr bA b0)
        have HW0 := hide (show (w.alloc (.cells #[.string f0, .int .i64 f1, .string f2, .int .i64 f3, .int .i64 f4, .string f5, .string f6] 49)).alloc (.cells #[.int .i64 v.k, .int .i64 v.a.x, .int .i64 v.a.n, .string v.a.t, .string v.a.y, .slice a1 l1 c1, .slice a2 l2 c2] 54) = W0 by rw [hW0, hWA])
        clear hWA hW0 bA b0
        go_enter Try.func17, Try.ntmps17
        go_wp2_with fail
        rw [unhide HW0]
        refine (unhide q1 _ ((unhide HS1).keep (unhide B0)) ((unhide HS2).keep (unhide B0))).mono ?_
        rintro e w1 ⟨⟨b, rfl, hb⟩, hb1⟩
        have T1 := (unhide T0).keep hb1
        have B1 := hide (bTr (unhide B0) hb1)
        clear hb hb1 q1 T0 B0 HW0
        have t1 := T1.at (o := 1) (v := .int .i64 f1) rfl
        have zt := T1.lt
        clear T1
        cases b
        · go_wp2_with fail
          go_ret
          exact unhide NO (unhide N) (unhide B1)
        by_cases o1 : f1 < 1
        · go_wp2_with fail
          go_ret
          exact unhide NO (unhide N) (unhide B1)
        by_cases o4 : 4 < f1
        · go_wp2_with fail
          go_ret
          exact unhide NO (unhide N) (unhide B1)
        have d1 : decide (f1 < 1) = false := decide_eq_false o1
        have d4 : decide (4 < f1) = false := decide_eq_false o4
        go_wp2_with fail
        go_ret
        exact unhide NO (unhide N) (unhide B1)
      · obtain ⟨WA, hWA⟩ : ∃ W, W = w.alloc (.cells #[.string f0, .int .i64 f1, .string f2, .int .i64 0, .int .i64 f4, .string f5, .string f6] 49) := ⟨_, rfl⟩
        obtain ⟨W0, hW0⟩ : ∃ W, W = WA.alloc (.cells #[.int .i64 v.k, .int .i64 v.a.x, .int .i64 v.a.n, .string v.a.t, .string v.a.y, .slice a1 l1 c1, .slice a2 l2 c2] 54) := ⟨_, rfl⟩
        have bA : Below w.heap.size w WA := by rw [hWA]; exact bAl (Below.refl _ _) _
        have b0 : Below WA.heap.size WA W0 := by rw [hW0]; exact bAl (Below.refl _ _) _
        have T0 := hide ((show RowIs WA w.heap.size #[.string f0, .int .i64 f1, .string f2, .int .i64 0, .int .i64 f4, .string f5, .string f6] 49 by rw [hWA]; exact RowIs.new _ _ _).keep b0)
        have B0 := hide (bTr bA b0)
        have HW0 := hide (show (w.alloc (.cells #[.string f0, .int .i64 f1, .string f2, .int .i64 0, .int .i64 f4, .string f5, .string f6] 49)).alloc (.cells #[.int .i64 v.k, .int .i64 v.a.x, .int .i64 v.a.n, .string v.a.t, .string v.a.y, .slice a1 l1 c1, .slice a2 l2 c2] 54) = W0 by rw [hW0, hWA])
        clear hWA hW0 bA b0
        go_enter Try.func17, Try.ntmps17
        go_wp2_with fail
        rw [unhide HW0]
        refine (unhide q1 _ ((unhide HS1).keep (unhide B0)) ((unhide HS2).keep (unhide B0))).mono ?_
        rintro e w1 ⟨⟨b, rfl, hb⟩, hb1⟩
        have T1 := (unhide T0).keep hb1
        have B1 := hide (bTr (unhide B0) hb1)
        clear hb hb1 q1 T0 B0 HW0
        have t1 := T1.at (o := 1) (v := .int .i64 f1) rfl
        have zt := T1.lt
        clear T1
        cases b
        · go_wp2_with fail
          go_ret
          exact unhide NO (unhide N) (unhide B1)
        by_cases o1 : f1 < 1
        · go_wp2_with fail
          go_ret
          exact unhide NO (unhide N) (unhide B1)
        by_cases o4 : 4 < f1
        · go_wp2_with fail
          go_ret
          exact unhide NO (unhide N) (unhide B1)
        have d1 : decide (f1 < 1) = false := decide_eq_false o1
        have d4 : decide (4 < f1) = false := decide_eq_false o4
        go_wp2_with fail
        go_ret
        exact unhide NO (unhide N) (unhide B1)
      · obtain ⟨WA, hWA⟩ : ∃ W, W = w.alloc (.cells #[.string f0, .int .i64 f1, .string f2, .int .i64 0, .int .i64 0, .string f5, .string f6] 49) := ⟨_, rfl⟩
        obtain ⟨W0, hW0⟩ : ∃ W, W = WA.alloc (.cells #[.int .i64 v.k, .int .i64 v.a.x, .int .i64 v.a.n, .string v.a.t, .string v.a.y, .slice a1 l1 c1, .slice a2 l2 c2] 54) := ⟨_, rfl⟩
        have bA : Below w.heap.size w WA := by rw [hWA]; exact bAl (Below.refl _ _) _
        have b0 : Below WA.heap.size WA W0 := by rw [hW0]; exact bAl (Below.refl _ _) _
        have T0 := hide ((show RowIs WA w.heap.size #[.string f0, .int .i64 f1, .string f2, .int .i64 0, .int .i64 0, .string f5, .string f6] 49 by rw [hWA]; exact RowIs.new _ _ _).keep b0)
        have B0 := hide (bTr bA b0)
        have HW0 := hide (show (w.alloc (.cells #[.string f0, .int .i64 f1, .string f2, .int .i64 0, .int .i64 0, .string f5, .string f6] 49)).alloc (.cells #[.int .i64 v.k, .int .i64 v.a.x, .int .i64 v.a.n, .string v.a.t, .string v.a.y, .slice a1 l1 c1, .slice a2 l2 c2] 54) = W0 by rw [hW0, hWA])
        clear hWA hW0 bA b0
        go_enter Try.func17, Try.ntmps17
        go_wp2_with fail
        rw [unhide HW0]
        refine (unhide q1 _ ((unhide HS1).keep (unhide B0)) ((unhide HS2).keep (unhide B0))).mono ?_
        rintro e w1 ⟨⟨b, rfl, hb⟩, hb1⟩
        have T1 := (unhide T0).keep hb1
        have B1 := hide (bTr (unhide B0) hb1)
        clear hb hb1 q1 T0 B0 HW0
        have t1 := T1.at (o := 1) (v := .int .i64 f1) rfl
        have zt := T1.lt
        clear T1
        cases b
        · go_wp2_with fail
          go_ret
          exact unhide NO (unhide N) (unhide B1)
        by_cases o1 : f1 < 1
        · go_wp2_with fail
          go_ret
          exact unhide NO (unhide N) (unhide B1)
        by_cases o4 : 4 < f1
        · go_wp2_with fail
          go_ret
          exact unhide NO (unhide N) (unhide B1)
        have d1 : decide (f1 < 1) = false := decide_eq_false o1
        have d4 : decide (4 < f1) = false := decide_eq_false o4
        go_wp2_with fail
        go_ret
        exact unhide NO (unhide N) (unhide B1)
      · obtain ⟨WA, hWA⟩ : ∃ W, W = w.alloc (.cells #[.string f0, .int .i64 f1, .string f2, .int .i64 0, .int .i64 0, .string empB, .string f6] 49) := ⟨_, rfl⟩
        obtain ⟨W0, hW0⟩ : ∃ W, W = WA.alloc (.cells #[.int .i64 v.k, .int .i64 v.a.x, .int .i64 v.a.n, .string v.a.t, .string v.a.y, .slice a1 l1 c1, .slice a2 l2 c2] 54) := ⟨_, rfl⟩
        have bA : Below w.heap.size w WA := by rw [hWA]; exact bAl (Below.refl _ _) _
        have b0 : Below WA.heap.size WA W0 := by rw [hW0]; exact bAl (Below.refl _ _) _
        have T0 := hide ((show RowIs WA w.heap.size #[.string f0, .int .i64 f1, .string f2, .int .i64 0, .int .i64 0, .string empB, .string f6] 49 by rw [hWA]; exact RowIs.new _ _ _).keep b0)
        have B0 := hide (bTr bA b0)
        have HW0 := hide (show (w.alloc (.cells #[.string f0, .int .i64 f1, .string f2, .int .i64 0, .int .i64 0, .string empB, .string f6] 49)).alloc (.cells #[.int .i64 v.k, .int .i64 v.a.x, .int .i64 v.a.n, .string v.a.t, .string v.a.y, .slice a1 l1 c1, .slice a2 l2 c2] 54) = W0 by rw [hW0, hWA])
        clear hWA hW0 bA b0
        go_enter Try.func17, Try.ntmps17
        go_wp2_with fail
        rw [unhide HW0]
        refine (unhide q1 _ ((unhide HS1).keep (unhide B0)) ((unhide HS2).keep (unhide B0))).mono ?_
        rintro e w1 ⟨⟨b, rfl, hb⟩, hb1⟩
        have T1 := (unhide T0).keep hb1
        have B1 := hide (bTr (unhide B0) hb1)
        clear hb hb1 q1 T0 B0 HW0
        have t1 := T1.at (o := 1) (v := .int .i64 f1) rfl
        have zt := T1.lt
        clear T1
        cases b
        · go_wp2_with fail
          go_ret
          exact unhide NO (unhide N) (unhide B1)
        by_cases o1 : f1 < 1
        · go_wp2_with fail
          go_ret
          exact unhide NO (unhide N) (unhide B1)
        by_cases o4 : 4 < f1
        · go_wp2_with fail
          go_ret
          exact unhide NO (unhide N) (unhide B1)
        have d1 : decide (f1 < 1) = false := decide_eq_false o1
        have d4 : decide (4 < f1) = false := decide_eq_false o4
        go_wp2_with fail
        go_ret
        exact unhide NO (unhide N) (unhide B1)
end Go.Proofs.Ytmkgehcfdcoliaa.V
