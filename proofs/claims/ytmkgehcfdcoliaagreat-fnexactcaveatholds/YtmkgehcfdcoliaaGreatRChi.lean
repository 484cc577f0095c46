/- impl.CaveatHolds. -/
import Derived.Test.YtmkgehcfdcoliaaGreatRCvd
import Derived.Test.YtmkgehcfdcoliaaGreatRGiv
import Derived.Test.YtmkgehcfdcoliaaGreatRHos
import Derived.Deep.RegionHeld3
namespace Go.Proofs.YtmkgehcfdcoliaaGreat.V
open Go.RowKit Go.Maps

set_option maxRecDepth 20000 in
set_option maxHeartbeats 1000000 in
theorem iCaveatHolds_any (nm : ByteArray) (l : List ParamT) (ts : List CavTermT) (v : ValT) (a1 a2 b1 b2 : Option Addr) (l1 c1 l2 c2 m1 d1 m2 d2 : Nat) (w : World) (hn : nm.size ≤ maxLen) (hv : v.Ok) (hl1 : l1 ≤ 1048576) (hl2 : l2 ≤ 1048576) (hm1 : m1 ≤ maxLen)
    (hs1 : SlParam w a1 l1 l) (hs2 : SlCavTerm w a2 l2 ts) (hok : ∀ q ∈ l, ParamT.Ok q) (hot : ∀ q ∈ ts, CavTermT.Ok q) (ht1 : SlA w b1 m1 v.items) (ht2 : SlS w b2 m2 v.names) :
    Calls Tryz.prog 9 #[.agg #[.string nm, .slice a1 l1 c1, .slice a2 l2 c2], vAgg v b1 m1 d1 b2 m2 d2] w fun e w' => (∃ r : Int, e = .returned (.int .i64 r) ∧ (GCav nm l ts ∧ Rec v → r = resF (termR l (gOf v)) ts) ∧ (¬ (GCav nm l ts ∧ Rec v) → r = -1)) ∧ Below w.heap.size w w' := by
  have HS1 := hide hs1
  have HS2 := hide hs2
  have HT1 := hide ht1
  have HT2 := hide ht2
  have q1 := hide (fun w h1 h2 => isGiven_any v hv b1 b2 m1 d1 m2 d2 w hm1 h1 h2)
  have q2 := hide (fun w h1 h2 => iGoodCaveat_any nm l ts a1 a2 l1 c1 l2 c2 w hn hl1 hl2 h1 h2 hok hot)
  have q3 : Hid (GCav nm l ts → ∀ w, SlParam w a1 l1 l → SlCavTerm w a2 l2 ts → Calls Tryz.prog 27 #[.agg #[.string nm, .slice a1 l1 c1, .slice a2 l2 c2]] w fun e w' => (∃ f, e = .returned f ∧ CondV w.heap.size w' f (fun g => resF (termR l g) ts)) ∧ Below w.heap.size w w') :=
    hide (fun hg w h1 h2 => (caveatCond_any nm l ts a1 a2 l1 c1 l2 c2 w hl1 (by rw [h2.1]; have := hg.t6; omega) h1 h2 hot).mono fun e w' ⟨⟨u, fv, e1, ho, hr, hc⟩, hb⟩ => ⟨⟨_, e1, caveatCondV (by have := hg.t6; omega) ho hr hc⟩, hb⟩)
  have q4 := hide (fun hr w h1 h2 => givenAtomsOf_any v hv hr b1 b2 m1 d1 m2 d2 w h1 h2)
  have og := hide (gOf_ok hv)
  clear hs1 hs2 ht1 ht2 hot hok hv hl1 hl2 hn hm1
  generalize hRES : resF (termR l (gOf v)) ts = RES
  have HRES := hide hRES
  clear hRES
  obtain ⟨WA, hWA⟩ : ∃ W, W = w.alloc (.cells #[.string nm, .slice a1 l1 c1, .slice a2 l2 c2] 38) := ⟨_, rfl⟩
  obtain ⟨W0, hW0⟩ : ∃ W, W = WA.alloc (.cells #[.int .i64 v.k, .int .i64 v.a.x, .int .i64 v.a.n, .string v.a.t, .string v.a.y, .slice b1 m1 d1, .slice b2 m2 d2] 43) := ⟨_, rfl⟩
  have zA' : WA.heap.size = w.heap.size + 1 := by rw [hWA]; simp
  have bA : Below w.heap.size w WA := by rw [hWA]; exact bAl (Below.refl _ _) _
  have b0 : Below WA.heap.size WA W0 := by rw [hW0]; exact bAl (Below.refl _ _) _
  have T0 := hide ((show RowIs WA w.heap.size #[.string nm, .slice a1 l1 c1, .slice a2 l2 c2] 38 by rw [hWA]; exact RowIs.new _ _ _).keep b0)
  have V0 := hide (show RowIs W0 (w.heap.size + 1) #[.int .i64 v.k, .int .i64 v.a.x, .int .i64 v.a.n, .string v.a.t, .string v.a.y, .slice b1 m1 d1, .slice b2 m2 d2] 43 by rw [hW0, ← zA']; exact RowIs.new _ _ _)
  have B0 := hide (bTr bA b0)
  have HW0 := hide (show (w.alloc (.cells #[.string nm, .slice a1 l1 c1, .slice a2 l2 c2] 38)).alloc (.cells #[.int .i64 v.k, .int .i64 v.a.x, .int .i64 v.a.n, .string v.a.t, .string v.a.y, .slice b1 m1 d1, .slice b2 m2 d2] 43) = W0 by rw [hW0, hWA])
  clear hWA hW0 zA' bA b0
  have NO : Hid (∀ {W : World}, ¬ (GCav nm l ts ∧ Rec v) → Below w.heap.size w W → (∃ r : Int, Ending.returned (.int .i64 (-1)) = .returned (.int .i64 r) ∧ (GCav nm l ts ∧ Rec v → r = RES) ∧ (¬ (GCav nm l ts ∧ Rec v) → r = -1)) ∧ Below w.heap.size w W) := hide (fun h k => ⟨⟨-1, rfl, fun h' => absurd h' h, fun _ => rfl⟩, k⟩)
  go_enter Tryz.func9, Tryz.ntmps9
  go_wp2_with fail
  rw [unhide HW0]
  refine (unhide q1 _ ((unhide HT1).keep (unhide B0)) ((unhide HT2).keep (unhide B0))).mono ?_
  rintro e w1 ⟨⟨b, rfl, hb⟩, hb1⟩
  have HB := hide hb
  have T1 := hide ((unhide T0).keep hb1)
  have V1 := hide ((unhide V0).keep hb1)
  have B1 := hide (bTr (unhide B0) hb1)
  clear hb hb1 q1 T0 V0 B0 HW0
  have x0 := (unhide T1).at (o := 0) (v := .string nm) rfl
  have x1 := (unhide T1).at (o := 1) (v := .slice a1 l1 c1) rfl
  have x2 := (unhide T1).at (o := 2) (v := .slice a2 l2 c2) rfl
  have zt := (unhide T1).lt
  cases b
  · have N : Hid (¬ (GCav nm l ts ∧ Rec v)) := hide (fun h => by have := (unhide HB).2 h.2; cases this)
    go_wp2_with fail
    go_ret
    exact unhide NO (unhide N) (unhide B1)
  have HR := hide ((unhide HB).1 rfl)
  clear HB
  go_wp2_with fail
  refine (unhide q2 _ ((unhide HS1).keep (unhide B1)) ((unhide HS2).keep (unhide B1))).mono ?_
  rintro e w2 ⟨⟨b, rfl, hb⟩, hb2⟩
  have HB := hide hb
  have T2 := hide ((unhide T1).keep hb2)
  have V2 := hide ((unhide V1).keep hb2)
  have B2 := hide (bTr (unhide B1) hb2)
  clear hb hb2 q2 T1 V1 B1 x0 x1 x2 zt
  cases b
  · have N : Hid (¬ (GCav nm l ts ∧ Rec v)) := hide (fun h => by have := (unhide HB).2 h.1; cases this)
    go_wp2_with fail
    go_ret
    exact unhide NO (unhide N) (unhide B2)
  have HG := hide ((unhide HB).1 rfl)
  clear HB
  have QV : Hid (∀ w', Below w2.heap.size w2 w' → (w'.cell? ⟨w.heap.size, 0, none⟩ = some (.string nm) ∧ w'.cell? ⟨w.heap.size, 1, none⟩ = some (.slice a1 l1 c1) ∧ w'.cell? ⟨w.heap.size, 2, none⟩ = some (.slice a2 l2 c2)) ∧ (w'.cell? ⟨w.heap.size + 1, 0, none⟩ = some (.int .i64 v.k) ∧ w'.cell? ⟨w.heap.size + 1, 1, none⟩ = some (.int .i64 v.a.x) ∧ w'.cell? ⟨w.heap.size + 1, 2, none⟩ = some (.int .i64 v.a.n) ∧ w'.cell? ⟨w.heap.size + 1, 3, none⟩ = some (.string v.a.t) ∧ w'.cell? ⟨w.heap.size + 1, 4, none⟩ = some (.string v.a.y) ∧ w'.cell? ⟨w.heap.size + 1, 5, none⟩ = some (.slice b1 m1 d1) ∧ w'.cell? ⟨w.heap.size + 1, 6, none⟩ = some (.slice b2 m2 d2))) := hide (fun w' h => have k := (unhide T2).keep h; have j := (unhide V2).keep h; ⟨⟨k.at rfl, k.at rfl, k.at rfl⟩, ⟨j.at rfl, j.at rfl, j.at rfl, j.at rfl, j.at rfl, j.at rfl, j.at rfl⟩⟩)
  go_wp2_with fail
  go_region_held3 (fun w' => (w'.cell? ⟨w.heap.size, 0, none⟩ = some (.string nm) ∧ w'.cell? ⟨w.heap.size, 1, none⟩ = some (.slice a1 l1 c1) ∧ w'.cell? ⟨w.heap.size, 2, none⟩ = some (.slice a2 l2 c2)) ∧ (w'.cell? ⟨w.heap.size + 1, 0, none⟩ = some (.int .i64 v.k) ∧ w'.cell? ⟨w.heap.size + 1, 1, none⟩ = some (.int .i64 v.a.x) ∧ w'.cell? ⟨w.heap.size + 1, 2, none⟩ = some (.int .i64 v.a.n) ∧ w'.cell? ⟨w.heap.size + 1, 3, none⟩ = some (.string v.a.t) ∧ w'.cell? ⟨w.heap.size + 1, 4, none⟩ = some (.string v.a.y) ∧ w'.cell? ⟨w.heap.size + 1, 5, none⟩ = some (.slice b1 m1 d1) ∧ w'.cell? ⟨w.heap.size + 1, 6, none⟩ = some (.slice b2 m2 d2)))
    ((exact unhide QV _ (by (repeat (first | exact Below.refl _ _ | exact unhide C6 | exact unhide C5 | exact unhide C4 | refine Below.drew ?_ | refine bAl ?_ _)); (first | done | fail))))
    (first
      | (go_at_call 27; refine (unhide q3 (unhide HG) _ ?_ ?_).mono ?_; (exact (unhide HS1).keep (by (repeat (first | exact unhide B2 | exact unhide D4 | refine Below.drew ?_ | refine bAl ?_ _)); (first | done | fail))); (exact (unhide HS2).keep (by (repeat (first | exact unhide B2 | exact unhide D4 | refine Below.drew ?_ | refine bAl ?_ _)); (first | done | fail))); rintro e w4 ⟨⟨vc, rfl, hvc⟩, hb4⟩; obtain ⟨N1, cp, rfl, en, qc⟩ := hvc; have EN : ∀ (args : Array Value) (w : World), (callFunc N1 args).run Tryz.prog w = .ok (.enter N1 args) w := en; have QC := hide qc; have C4 := hide (bTr (show Below w2.heap.size w2 _ from (by (repeat (first | exact Below.refl _ _ | exact unhide C6 | exact unhide C5 | exact unhide C4 | refine Below.drew ?_ | refine bAl ?_ _)); (first | done | fail))) hb4); have D4 := hide (bTr (unhide B2) (unhide C4)); clear hb4 en qc)
      | (go_at_call 28; refine (unhide q4 (unhide HR) _ ?_ ?_).mono ?_; (exact (unhide HT1).keep (by (repeat (first | exact unhide B2 | exact unhide D4 | refine Below.drew ?_ | refine bAl ?_ _)); (first | done | fail))); (exact (unhide HT2).keep (by (repeat (first | exact unhide B2 | exact unhide D4 | refine Below.drew ?_ | refine bAl ?_ _)); (first | done | fail))); rintro e w5 ⟨⟨bm, n, rfl, hm⟩, hb5⟩; have Q4 := hide (unhide QC w5 bm n (gOf v) (KeptR.below hb5) hm (unhide og)); have C5 := hide (bTr (unhide C4) hb5); have D5 := hide (bTr (unhide D4) hb5); clear hb5 hm)
      | (refine (unhide Q4).mono ?_; rintro e w6 ⟨rfl, hb6⟩; have D6 := hide (bTr (unhide D5) hb6); have C6 := hide (bTr (unhide C5) hb6); clear hb6))
  all_goals go_wp2_with fail
  all_goals go_ret
  all_goals exact ⟨⟨_, rfl, fun _ => unhide HRES, fun h => absurd ⟨unhide HG, unhide HR⟩ h⟩, unhide D6⟩
end Go.Proofs.YtmkgehcfdcoliaaGreat.V
