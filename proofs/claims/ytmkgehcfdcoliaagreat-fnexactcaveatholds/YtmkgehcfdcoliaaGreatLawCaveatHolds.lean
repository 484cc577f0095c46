/- The row of laws.FnExactCaveatHolds: its walk, then the row's step. -/
import Derived.Test.YtmkgehcfdcoliaaGreatRows
import Derived.Test.YtmkgehcfdcoliaaGreatRChi
import Derived.Test.YtmkgehcfdcoliaaGreatRCav
import Derived.WalkKit
import Derived.ProofKit
import Derived.OpenShut
import Derived.ShutString
import Derived.ChangeOld
import Derived.Below
import Derived.Lib.SmallJoins
import Derived.Deep.RegionHeld3
namespace Go.Proofs.YtmkgehcfdcoliaaGreat.fnExactCaveatHolds
open Go.ChangeShapes Go.WideShapes Go.ChangeAt Go.RowKit Go.Joins
open Go.ChangeMaps (open_string shut_string)
set_option linter.unusedVariables false

theorem own : ownKnob Tryz.prog.godebug = none := by kernel_rfl
theorem laidOut : laidOutB Tryz.prog = true := by kernel_rfl

open V in
set_option maxRecDepth 20000 in
set_option maxHeartbeats 2000000 in
theorem walk (nm : ByteArray) (l : List V.ParamT) (ts : List V.CavTermT) (a1 a2 : Option Addr) (l1 c1 l2 c2 : Nat) (v : V.ValT) (b1 b2 : Option Addr) (m1 d1 m2 d2 : Nat) (w : World) (hn : nm.size ≤ maxLen)
    (hs1 : V.SlParam w a1 l1 l) (hs2 : V.SlCavTerm w a2 l2 ts) (hok : ∀ q ∈ l, V.ParamT.Ok q) (hot : ∀ q ∈ ts, V.CavTermT.Ok q) (hl1 : l1 ≤ maxLen) (hl2 : l2 ≤ maxLen)
    (hv : v.Ok) (ht1 : V.SlA w b1 m1 v.items) (ht2 : V.SlS w b2 m2 v.names) (hm1 : m1 ≤ maxLen) (hm2 : m2 ≤ maxLen) :
    Calls Tryz.prog 3 #[.agg #[.string nm, .slice a1 l1 c1, .slice a2 l2 c2], vAgg v b1 m1 d1 b2 m2 d2] w fun e w' => e = .returned (.bool true) ∧ Below w.heap.size w w' := by
  have q1 := hide (fun q w h0 h1 h2 h3 => szCaveat_any nm l ts a1 a2 l1 c1 l2 c2 q w h0 h1 hn hl1 hl2 h2 h3 hok hot)
  have q2 := hide (fun q w h0 h1 h2 h3 => szValue_any v hv b1 b2 m1 d1 m2 d2 q w h0 h1 hm1 hm2 h2 h3)
  have HS1 := hide hs1
  have HS2 := hide hs2
  have HT1 := hide ht1
  have HT2 := hide ht2
  have HN := hide hn
  have HO := hide hok
  have HP := hide hot
  have HV := hide hv
  have ML1 := hide hl1
  have ML2 := hide hl2
  have MM1 := hide hm1
  have MM2 := hide hm2
  clear hs1 hs2 ht1 ht2 hn hok hot hv hl1 hl2 hm1 hm2
  obtain ⟨WA, hWA⟩ : ∃ W, W = w.alloc (.cells #[.string nm, .slice a1 l1 c1, .slice a2 l2 c2] 25) := ⟨_, rfl⟩
  obtain ⟨W0, hW0⟩ : ∃ W, W = WA.alloc (.cells #[.int .i64 v.k, .int .i64 v.a.x, .int .i64 v.a.n, .string v.a.t, .string v.a.y, .slice b1 m1 d1, .slice b2 m2 d2] 31) := ⟨_, rfl⟩
  have zA' : WA.heap.size = w.heap.size + 1 := by rw [hWA]; simp
  have bA : Below w.heap.size w WA := by rw [hWA]; exact bAl (Below.refl _ _) _
  have b0 : Below WA.heap.size WA W0 := by rw [hW0]; exact bAl (Below.refl _ _) _
  have T0 := hide ((show V.RowIs WA w.heap.size #[.string nm, .slice a1 l1 c1, .slice a2 l2 c2] 25 by rw [hWA]; exact V.RowIs.new _ _ _).keep b0)
  have V0 := hide (show V.RowIs W0 (w.heap.size + 1) #[.int .i64 v.k, .int .i64 v.a.x, .int .i64 v.a.n, .string v.a.t, .string v.a.y, .slice b1 m1 d1, .slice b2 m2 d2] 31 by rw [hW0, ← zA']; exact V.RowIs.new _ _ _)
  have B0 := hide (bTr bA b0)
  have HW0 := hide (show (w.alloc (.cells #[.string nm, .slice a1 l1 c1, .slice a2 l2 c2] 25)).alloc (.cells #[.int .i64 v.k, .int .i64 v.a.x, .int .i64 v.a.n, .string v.a.t, .string v.a.y, .slice b1 m1 d1, .slice b2 m2 d2] 31) = W0 by rw [hW0, hWA])
  clear hWA hW0 zA' bA b0
  have QV : Hid (∀ w', Below W0.heap.size W0 w' → (w'.cell? ⟨w.heap.size, 0, none⟩ = some (.string nm) ∧ w'.cell? ⟨w.heap.size, 1, none⟩ = some (.slice a1 l1 c1) ∧ w'.cell? ⟨w.heap.size, 2, none⟩ = some (.slice a2 l2 c2)) ∧ (w'.cell? ⟨w.heap.size + 1, 0, none⟩ = some (.int .i64 v.k) ∧ w'.cell? ⟨w.heap.size + 1, 1, none⟩ = some (.int .i64 v.a.x) ∧ w'.cell? ⟨w.heap.size + 1, 2, none⟩ = some (.int .i64 v.a.n) ∧ w'.cell? ⟨w.heap.size + 1, 3, none⟩ = some (.string v.a.t) ∧ w'.cell? ⟨w.heap.size + 1, 4, none⟩ = some (.string v.a.y) ∧ w'.cell? ⟨w.heap.size + 1, 5, none⟩ = some (.slice b1 m1 d1) ∧ w'.cell? ⟨w.heap.size + 1, 6, none⟩ = some (.slice b2 m2 d2))) := hide (fun w' h => have k := (unhide T0).keep h; have j := (unhide V0).keep h; ⟨⟨k.at rfl, k.at rfl, k.at rfl⟩, ⟨j.at rfl, j.at rfl, j.at rfl, j.at rfl, j.at rfl, j.at rfl, j.at rfl⟩⟩)
  go_enter Tryz.func3, Tryz.ntmps3
  go_wp2_with fail
  rw [unhide HW0]
  refine (unhide q1 _ _ (by omega) (by omega) ((unhide HS1).keep (unhide B0)) ((unhide HS2).keep (unhide B0))).mono ?_
  rintro e w1 ⟨⟨n1, hn1, hn2, hn3, rfl⟩, hb1⟩
  have C1 := hide hb1
  have D1 := hide (bTr (unhide B0) hb1)
  clear hb1 q1 HW0
  by_cases g1 : n1 < 0
  · go_wp2_with fail
    go_ret
    exact ⟨rfl, unhide D1⟩
  have G0 := hide (hn3 (by omega))
  obtain ⟨⟨x0, x1, x2⟩, ⟨v0, v1, v2, v3, v4, v5, v6⟩⟩ := unhide QV w1 (unhide C1)
  go_wp2_with fail
  refine (unhide q2 _ _ (by omega) (by omega) ((unhide HT1).keep (unhide D1)) ((unhide HT2).keep (unhide D1))).mono ?_
  rintro e w2 ⟨⟨n2, ho1, ho2, ho3, rfl⟩, hb2⟩
  have C2 := hide (bTr (unhide C1) hb2)
  have D2 := hide (bTr (unhide D1) hb2)
  clear hb2 q2 x0 x1 x2 v0 v1 v2 v3 v4 v5 v6
  by_cases g2 : n2 < 0
  · go_wp2_with fail
    go_ret
    exact ⟨rfl, unhide D2⟩
  have G1 := hide (ho3 (by omega))
  have gl1 : l1 ≤ 1048576 := by have := (unhide G0).1; omega
  have gl2 : l2 ≤ 1048576 := by have := (unhide G0).2; omega
  have gm1 : m1 ≤ 1048576 := by have := (unhide G1).1; omega
  have gm2 : m2 ≤ 1048576 := by have := (unhide G1).2; omega
  have QC : Hid (∀ w, V.SlParam w a1 l1 l → V.SlCavTerm w a2 l2 ts → Calls Tryz.prog 7 #[.agg #[.string nm, .slice a1 l1 c1, .slice a2 l2 c2]] w fun e w' => ∃ r1 r2, e = .returned (.agg #[.string nm, .slice (some ⟨r1, 0, none⟩) l1 l1, .slice (some ⟨r2, 0, none⟩) l2 l2]) ∧ V.SlParam w' (some ⟨r1, 0, none⟩) l1 l ∧ V.SlCavTerm w' (some ⟨r2, 0, none⟩) l2 ts ∧ Below w.heap.size w w') :=
    hide (fun w h1 h2 => (toCaveat_any nm l ts a1 a2 l1 c1 l2 c2 w gl1 gl2 h1 h2).mono fun _ _ ⟨r1, r2, e1, e2, e3, e4⟩ => ⟨r1, r2, e1, ⟨h1.1, .inr ⟨_, 0, rfl, e2⟩⟩, ⟨h2.1, .inr ⟨_, 0, rfl, e3⟩⟩, e4⟩)
  have QW : Hid (∀ w, V.SlA w b1 m1 v.items → V.SlS w b2 m2 v.names → Calls Tryz.prog 8 #[vAgg v b1 m1 d1 b2 m2 d2] w fun e w' => ∃ r1 r2, e = .returned (vAgg v (some ⟨r1, 0, none⟩) m1 m1 (some ⟨r2, 0, none⟩) m2 m2) ∧ V.SlA w' (some ⟨r1, 0, none⟩) m1 v.items ∧ V.SlS w' (some ⟨r2, 0, none⟩) m2 v.names ∧ Below w.heap.size w w') :=
    hide (fun w h1 h2 => (toValue_any v b1 b2 m1 d1 m2 d2 w gm1 gm2 h1 h2).mono fun _ _ ⟨r1, r2, e1, e2, e3, e4⟩ => ⟨r1, r2, e1, ⟨h1.1, .inr ⟨_, 0, rfl, e2⟩⟩, ⟨h2.1, .inr ⟨_, 0, rfl, e3⟩⟩, e4⟩)
  clear hn1 hn2 hn3 ho1 ho2 ho3 g1
  go_wp2_with fail
  go_region_held3 (fun w' => (w'.cell? ⟨w.heap.size, 0, none⟩ = some (.string nm) ∧ w'.cell? ⟨w.heap.size, 1, none⟩ = some (.slice a1 l1 c1) ∧ w'.cell? ⟨w.heap.size, 2, none⟩ = some (.slice a2 l2 c2)) ∧ (w'.cell? ⟨w.heap.size + 1, 0, none⟩ = some (.int .i64 v.k) ∧ w'.cell? ⟨w.heap.size + 1, 1, none⟩ = some (.int .i64 v.a.x) ∧ w'.cell? ⟨w.heap.size + 1, 2, none⟩ = some (.int .i64 v.a.n) ∧ w'.cell? ⟨w.heap.size + 1, 3, none⟩ = some (.string v.a.t) ∧ w'.cell? ⟨w.heap.size + 1, 4, none⟩ = some (.string v.a.y) ∧ w'.cell? ⟨w.heap.size + 1, 5, none⟩ = some (.slice b1 m1 d1) ∧ w'.cell? ⟨w.heap.size + 1, 6, none⟩ = some (.slice b2 m2 d2)))
    ((exact unhide QV _ (by (repeat (first | exact unhide C5 | exact unhide C4 | exact unhide C3 | exact unhide C2 | refine Below.drew ?_)); (first | done | fail))))
    (first
      | (go_at_call 7; refine (unhide QC _ ?_ ?_).mono ?_; (exact (unhide HS1).keep (unhide D2).drew); (exact (unhide HS2).keep (unhide D2).drew); rintro e w3 ⟨r1, r2, rfl, s1, s2, hb3⟩; have C3 := hide (bTr (unhide C2) (V.undrew hb3)); have D3 := hide (bTr (unhide D2) (V.undrew hb3)); have S1 := hide s1; have S2 := hide s2; clear hb3 s1 s2)
      | (go_at_call 8; refine (unhide QW _ ?_ ?_).mono ?_; (exact (unhide HT1).keep (unhide D3)); (exact (unhide HT2).keep (unhide D3)); rintro e w4 ⟨r3, r4, rfl, s3, s4, hb4⟩; have C4 := hide (bTr (unhide C3) hb4); have D4 := hide (bTr (unhide D3) hb4); have S3 := hide s3; have S4 := hide s4; have S1' := hide ((unhide S1).keep hb4); have S2' := hide ((unhide S2).keep hb4); clear hb4 s3 s4)
      | (go_at_call 6; refine (sCaveatHolds_any nm l ts v (some ⟨r1, 0, none⟩) (some ⟨r2, 0, none⟩) (some ⟨r3, 0, none⟩) (some ⟨r4, 0, none⟩) l1 l1 l2 l2 m1 m1 m2 m2 _ (unhide HN) (unhide HV) gl1 gl2 (unhide S1') (unhide S2') (unhide HO) (unhide HP) (unhide S3) (unhide S4)).mono ?_; rintro e w5 ⟨⟨r, rfl, hr1, hr2⟩, hb5⟩; have C5 := hide (bTr (unhide C4) hb5); have D5 := hide (bTr (unhide D4) hb5); have HR1 := hide hr1; have HR2 := hide hr2; clear hb5 hr1 hr2))
  clear S1 S2 S3 S4 S1' S2'
  obtain ⟨⟨x0, x1, x2⟩, ⟨v0, v1, v2, v3, v4, v5, v6⟩⟩ := unhide QV w5 (unhide C5)
  go_wp2_with fail
  refine (unhide QC _ ((unhide HS1).keep (unhide D5)) ((unhide HS2).keep (unhide D5))).mono ?_
  rintro e w7 ⟨p1, p2, rfl, s1, s2, hb7⟩
  obtain ⟨X, hX⟩ : ∃ W, W = w7.alloc (.cells #[.string nm, .slice (some ⟨p1, 0, none⟩) l1 l1, .slice (some ⟨p2, 0, none⟩) l2 l2] 38) := ⟨_, rfl⟩
  have bX : Below w7.heap.size w7 X := by rw [hX]; exact bAl (Below.refl _ _) _
  have RX := hide (show V.RowIs X w7.heap.size #[.string nm, .slice (some ⟨p1, 0, none⟩) l1 l1, .slice (some ⟨p2, 0, none⟩) l2 l2] 38 by rw [hX]; exact V.RowIs.new _ _ _)
  have CX := hide (bTr (bTr (unhide C5) hb7) bX)
  have DX := hide (bTr (bTr (unhide D5) hb7) bX)
  have C7 := hide (bTr (unhide C5) hb7)
  have P1 := hide (s1.keep bX)
  have P2 := hide (s2.keep bX)
  have HX := hide hX.symm
  clear hb7 s1 s2 hX bX x0 x1 x2 v0 v1 v2 v3 v4 v5 v6
  obtain ⟨⟨x0, x1, x2⟩, ⟨v0, v1, v2, v3, v4, v5, v6⟩⟩ := unhide QV w7 (unhide C7)
  have zv : w.heap.size + 1 < w7.heap.size := ((unhide V0).keep (unhide C7)).lt
  go_wp2_with fail
  rw [unhide HX]
  refine (unhide QW _ ((unhide HT1).keep (unhide DX)) ((unhide HT2).keep (unhide DX))).mono ?_
  rintro e w8 ⟨p3, p4, rfl, s3, s4, hb8⟩
  obtain ⟨Y, hY⟩ : ∃ W, W = w8.alloc (.cells #[.int .i64 v.k, .int .i64 v.a.x, .int .i64 v.a.n, .string v.a.t, .string v.a.y, .slice (some ⟨p3, 0, none⟩) m1 m1, .slice (some ⟨p4, 0, none⟩) m2 m2] 43) := ⟨_, rfl⟩
  have bY : Below w8.heap.size w8 Y := by rw [hY]; exact bAl (Below.refl _ _) _
  have RY := hide (show V.RowIs Y w8.heap.size #[.int .i64 v.k, .int .i64 v.a.x, .int .i64 v.a.n, .string v.a.t, .string v.a.y, .slice (some ⟨p3, 0, none⟩) m1 m1, .slice (some ⟨p4, 0, none⟩) m2 m2] 43 by rw [hY]; exact V.RowIs.new _ _ _)
  have RXY := hide (((unhide RX).keep hb8).keep bY)
  have CY := hide (bTr (bTr (unhide CX) hb8) bY)
  have DY := hide (bTr (bTr (unhide DX) hb8) bY)
  have O1 := hide (((unhide P1).keep hb8).keep bY)
  have O2 := hide (((unhide P2).keep hb8).keep bY)
  have O3 := hide (s3.keep bY)
  have O4 := hide (s4.keep bY)
  have y := (unhide RX).keep hb8
  have y0 := y.at (o := 0) (v := .string nm) rfl
  have y1 := y.at (o := 1) (v := .slice (some ⟨p1, 0, none⟩) l1 l1) rfl
  have y2 := y.at (o := 2) (v := .slice (some ⟨p2, 0, none⟩) l2 l2) rfl
  have zy := y.lt
  have HY := hide hY.symm
  clear hb8 s3 s4 hY bY x0 x1 x2 v0 v1 v2 v3 v4 v5 v6 zv HX y RX
  have QX : Hid (∀ w', Below Y.heap.size Y w' → ((w'.cell? ⟨w.heap.size, 0, none⟩ = some (.string nm) ∧ w'.cell? ⟨w.heap.size, 1, none⟩ = some (.slice a1 l1 c1) ∧ w'.cell? ⟨w.heap.size, 2, none⟩ = some (.slice a2 l2 c2)) ∧ (w'.cell? ⟨w.heap.size + 1, 0, none⟩ = some (.int .i64 v.k) ∧ w'.cell? ⟨w.heap.size + 1, 1, none⟩ = some (.int .i64 v.a.x) ∧ w'.cell? ⟨w.heap.size + 1, 2, none⟩ = some (.int .i64 v.a.n) ∧ w'.cell? ⟨w.heap.size + 1, 3, none⟩ = some (.string v.a.t) ∧ w'.cell? ⟨w.heap.size + 1, 4, none⟩ = some (.string v.a.y) ∧ w'.cell? ⟨w.heap.size + 1, 5, none⟩ = some (.slice b1 m1 d1) ∧ w'.cell? ⟨w.heap.size + 1, 6, none⟩ = some (.slice b2 m2 d2))) ∧ ((w'.cell? ⟨w7.heap.size, 0, none⟩ = some (.string nm) ∧ w'.cell? ⟨w7.heap.size, 1, none⟩ = some (.slice (some ⟨p1, 0, none⟩) l1 l1) ∧ w'.cell? ⟨w7.heap.size, 2, none⟩ = some (.slice (some ⟨p2, 0, none⟩) l2 l2)) ∧ (w'.cell? ⟨w8.heap.size, 0, none⟩ = some (.int .i64 v.k) ∧ w'.cell? ⟨w8.heap.size, 1, none⟩ = some (.int .i64 v.a.x) ∧ w'.cell? ⟨w8.heap.size, 2, none⟩ = some (.int .i64 v.a.n) ∧ w'.cell? ⟨w8.heap.size, 3, none⟩ = some (.string v.a.t) ∧ w'.cell? ⟨w8.heap.size, 4, none⟩ = some (.string v.a.y) ∧ w'.cell? ⟨w8.heap.size, 5, none⟩ = some (.slice (some ⟨p3, 0, none⟩) m1 m1) ∧ w'.cell? ⟨w8.heap.size, 6, none⟩ = some (.slice (some ⟨p4, 0, none⟩) m2 m2)))) := hide (fun w' h => have j := (unhide RY).keep h; have k := (unhide RXY).keep h; ⟨unhide QV w' (bTr (unhide CY) h), ⟨k.at rfl, k.at rfl, k.at rfl⟩, ⟨j.at rfl, j.at rfl, j.at rfl, j.at rfl, j.at rfl, j.at rfl, j.at rfl⟩⟩)
  go_wp2_with fail
  rw [unhide HY]
  refine (iCaveatHolds_any nm l ts v (some ⟨p1, 0, none⟩) (some ⟨p2, 0, none⟩) (some ⟨p3, 0, none⟩) (some ⟨p4, 0, none⟩) l1 l1 l2 l2 m1 m1 m2 m2 _ (unhide HN) (unhide HV) gl1 gl2 (unhide MM1) (unhide O1) (unhide O2) (unhide HO) (unhide HP) (unhide O3) (unhide O4)).mono ?_
  rintro e w9 ⟨⟨r', rfl, hr1, hr2⟩, hb9⟩
  obtain rfl : r' = r := by
    by_cases h : V.GCav nm l ts ∧ V.Rec v
    · rw [hr1 h, unhide HR1 h]
    · rw [hr2 h, unhide HR2 h]
  have E9 := hide hb9
  have D9 := hide (bTr (unhide DY) hb9)
  clear hb9 hr1 hr2 HR1 HR2 HY y0 y1 y2 zy
  go_wp2_with fail
  go_region_held3 (fun w' => ((w'.cell? ⟨w.heap.size, 0, none⟩ = some (.string nm) ∧ w'.cell? ⟨w.heap.size, 1, none⟩ = some (.slice a1 l1 c1) ∧ w'.cell? ⟨w.heap.size, 2, none⟩ = some (.slice a2 l2 c2)) ∧ (w'.cell? ⟨w.heap.size + 1, 0, none⟩ = some (.int .i64 v.k) ∧ w'.cell? ⟨w.heap.size + 1, 1, none⟩ = some (.int .i64 v.a.x) ∧ w'.cell? ⟨w.heap.size + 1, 2, none⟩ = some (.int .i64 v.a.n) ∧ w'.cell? ⟨w.heap.size + 1, 3, none⟩ = some (.string v.a.t) ∧ w'.cell? ⟨w.heap.size + 1, 4, none⟩ = some (.string v.a.y) ∧ w'.cell? ⟨w.heap.size + 1, 5, none⟩ = some (.slice b1 m1 d1) ∧ w'.cell? ⟨w.heap.size + 1, 6, none⟩ = some (.slice b2 m2 d2))) ∧ ((w'.cell? ⟨w7.heap.size, 0, none⟩ = some (.string nm) ∧ w'.cell? ⟨w7.heap.size, 1, none⟩ = some (.slice (some ⟨p1, 0, none⟩) l1 l1) ∧ w'.cell? ⟨w7.heap.size, 2, none⟩ = some (.slice (some ⟨p2, 0, none⟩) l2 l2)) ∧ (w'.cell? ⟨w8.heap.size, 0, none⟩ = some (.int .i64 v.k) ∧ w'.cell? ⟨w8.heap.size, 1, none⟩ = some (.int .i64 v.a.x) ∧ w'.cell? ⟨w8.heap.size, 2, none⟩ = some (.int .i64 v.a.n) ∧ w'.cell? ⟨w8.heap.size, 3, none⟩ = some (.string v.a.t) ∧ w'.cell? ⟨w8.heap.size, 4, none⟩ = some (.string v.a.y) ∧ w'.cell? ⟨w8.heap.size, 5, none⟩ = some (.slice (some ⟨p3, 0, none⟩) m1 m1) ∧ w'.cell? ⟨w8.heap.size, 6, none⟩ = some (.slice (some ⟨p4, 0, none⟩) m2 m2))))
    ((exact unhide QX _ (by (repeat (first | exact unhide E11 | exact unhide E10 | exact unhide E9 | refine Below.drew ?_)); (first | done | fail))))
    (first
      | (go_at_call 7; refine (unhide QC _ ?_ ?_).mono ?_; (exact (unhide HS1).keep (unhide D9).drew); (exact (unhide HS2).keep (unhide D9).drew); rintro e w10 ⟨r3, r4, rfl, s3, s4, hb10⟩; have E10 := hide (bTr (unhide E9) (V.undrew hb10)); have S3 := hide s3; have S4 := hide s4; clear hb10 s3 s4)
      | (go_at_call 10; refine (eqCaveat_same nm l ts (some ⟨p1, 0, none⟩) (some ⟨p2, 0, none⟩) (some ⟨r3, 0, none⟩) (some ⟨r4, 0, none⟩) l1 l1 l2 l2 l1 l1 l2 l2 _ (unhide ML1) (unhide ML2) ((unhide O1).keep (unhide E10)) ((unhide O2).keep (unhide E10)) (unhide S3) (unhide S4)).mono ?_; rintro e w11 ⟨rfl, hb11⟩; have E11 := hide (bTr (unhide E10) hb11); clear hb11))
  have D11 := hide (bTr (unhide DY) (unhide E11))
  go_wp2_with fail
  go_region_held3 (fun w' => ((w'.cell? ⟨w.heap.size, 0, none⟩ = some (.string nm) ∧ w'.cell? ⟨w.heap.size, 1, none⟩ = some (.slice a1 l1 c1) ∧ w'.cell? ⟨w.heap.size, 2, none⟩ = some (.slice a2 l2 c2)) ∧ (w'.cell? ⟨w.heap.size + 1, 0, none⟩ = some (.int .i64 v.k) ∧ w'.cell? ⟨w.heap.size + 1, 1, none⟩ = some (.int .i64 v.a.x) ∧ w'.cell? ⟨w.heap.size + 1, 2, none⟩ = some (.int .i64 v.a.n) ∧ w'.cell? ⟨w.heap.size + 1, 3, none⟩ = some (.string v.a.t) ∧ w'.cell? ⟨w.heap.size + 1, 4, none⟩ = some (.string v.a.y) ∧ w'.cell? ⟨w.heap.size + 1, 5, none⟩ = some (.slice b1 m1 d1) ∧ w'.cell? ⟨w.heap.size + 1, 6, none⟩ = some (.slice b2 m2 d2))) ∧ ((w'.cell? ⟨w7.heap.size, 0, none⟩ = some (.string nm) ∧ w'.cell? ⟨w7.heap.size, 1, none⟩ = some (.slice (some ⟨p1, 0, none⟩) l1 l1) ∧ w'.cell? ⟨w7.heap.size, 2, none⟩ = some (.slice (some ⟨p2, 0, none⟩) l2 l2)) ∧ (w'.cell? ⟨w8.heap.size, 0, none⟩ = some (.int .i64 v.k) ∧ w'.cell? ⟨w8.heap.size, 1, none⟩ = some (.int .i64 v.a.x) ∧ w'.cell? ⟨w8.heap.size, 2, none⟩ = some (.int .i64 v.a.n) ∧ w'.cell? ⟨w8.heap.size, 3, none⟩ = some (.string v.a.t) ∧ w'.cell? ⟨w8.heap.size, 4, none⟩ = some (.string v.a.y) ∧ w'.cell? ⟨w8.heap.size, 5, none⟩ = some (.slice (some ⟨p3, 0, none⟩) m1 m1) ∧ w'.cell? ⟨w8.heap.size, 6, none⟩ = some (.slice (some ⟨p4, 0, none⟩) m2 m2))))
    ((exact unhide QX _ (by (repeat (first | exact unhide E13 | exact unhide E12 | exact unhide E11 | refine Below.drew ?_)); (first | done | fail))))
    (first
      | (go_at_call 8; refine (unhide QW _ ?_ ?_).mono ?_; (exact (unhide HT1).keep (unhide D11).drew); (exact (unhide HT2).keep (unhide D11).drew); rintro e w12 ⟨r5, r6, rfl, s5, s6, hb12⟩; have E12 := hide (bTr (unhide E11) (V.undrew hb12)); have S5 := hide s5; have S6 := hide s6; clear hb12 s5 s6)
      | (go_at_call 11; refine (eqValue_same v (some ⟨p3, 0, none⟩) (some ⟨p4, 0, none⟩) (some ⟨r5, 0, none⟩) (some ⟨r6, 0, none⟩) m1 m1 m2 m2 m1 m1 m2 m2 _ (unhide MM1) (unhide MM2) ((unhide O3).keep (unhide E12)) ((unhide O4).keep (unhide E12)) (unhide S5) (unhide S6)).mono ?_; rintro e w13 ⟨rfl, hb13⟩; have E13 := hide (bTr (unhide E12) hb13); clear hb13))
  all_goals
    go_wp2_with fail
    go_ret
    exact ⟨rfl, bTr (unhide DY) (unhide E13)⟩

set_option maxRecDepth 100000 in
theorem lifted (os : Os) (started : os.Started) (H : Type) (enc : TypeId × Value → H) :
    ReturnsInHanded {} Tryz.checked os 3 .any (Rows.fnExactCaveatHoldsSpec.pre6 enc Tryz.prog Tryz.f3 Rows.fnExactCaveatHoldsRow.domain false) (Rows.fnExactCaveatHoldsSpec.post enc Tryz.prog Tryz.f3 false true false false) := by
  refine returnsInHanded_of_change (C := Tryz.checked) own started (by kernel_rfl) Tryz.func3
    (ChangeSpec.witness6 (enc := enc) (C := Tryz.checked) false ⟨#[], #[.agg #[.string ByteArray.empty, .slice none 0 0, .slice none 0 0], .agg #[.int .i64 0, .int .i64 0, .int .i64 0, .string ByteArray.empty, .string ByteArray.empty, .slice none 0 0, .slice none 0 0]], []⟩ 8 (by kernel_rfl) (by kernel_rfl) (by kernel_rfl) (by kernel_rfl)) ?_
  intro W base args ds gs before hval0 hW hcnd _
  have hval : ∀ (j : Nat) t v, Tryz.f3.params[j]? = some t → args[j]? = some v → Value.okWide Tryz.prog W .any base t v := hval0
  have hW' := hW
  obtain ⟨p, q, hA0, hV, rfl, hfz, hnd⟩ := hW
  have hA : DataW.TrodAll enc Tryz.prog W 0 (fun _ => true) true Tryz.f3.params.toList args.toList ds p := hA0
  rw [Tryz.params3] at hA hval
  obtain ⟨v0, vs0, d0, ds0, p0, q0, hargs, rfl, rfl, h0, r0⟩ := trodAll_cons hA
  obtain ⟨v1, vs1, d1, ds1, p1, q1, rfl, rfl, rfl, h1, r1⟩ := trodAll_cons r0
  obtain ⟨rfl, rfl, rfl⟩ := trodAll_nil r1
  obtain rfl : args = #[v0, v1] := by cases args; simp_all
  obtain ⟨rfl, rfl⟩ := trodVars_none hV
  have k0 := h0
  have lt0 : ∀ x ∈ p0, x.block < W.heap.size := by obtain ⟨m, hm⟩ := k0; exact DataW.trod_lt m _ _ _ hm
  obtain ⟨n0, l0, t0, a0, z0, len0, cap0, lem0, cam0, e0, o0, s0, y0, u0, v0', m0, m0'⟩ := V.read_caveat (hval 0 25 v0 rfl rfl) h0
  subst e0
  have k1 := h1
  have lt1 : ∀ x ∈ p1, x.block < W.heap.size := by obtain ⟨m, hm⟩ := k1; exact DataW.trod_lt m _ _ _ hm
  obtain ⟨g1, a1, z1, len1, cap1, lem1, cam1, e1, o1, s1, y1, m1, m1'⟩ := V.read_value (hval 1 31 v1 rfl rfl) h1
  subst e1
  clear hA0 hval0
  refine (walk n0 l0 t0 a0 z0 len0 cap0 lem0 cam0 g1 a1 z1 len1 cap1 lem1 cam1 W o0 s0 y0 u0 v0' m0 m0' o1 s1 y1 m1 m1').mono fun e W' ⟨he, bel⟩ => ?_
  subst he
  exact ⟨_, rfl, _, _, _, [], _, [], hW', trodAll_mk1 (shut_bool Tryz.underlying4 _), (trodAll_cons_mk (Below.trod laidOut (by kernel_rfl) (of_decide_eq_true (by kernel_rfl)) k0 bel lt0) (trodAll_cons_mk (Below.trod laidOut (by kernel_rfl) (of_decide_eq_true (by kernel_rfl)) k1 bel lt1) trodAll_mk0)), rfl, bel.frame _, fun h => by cases h⟩

theorem over : Rows.fnExactCaveatHoldsRow.holds Tryz.pinned (OpenSpec.ofChange Rows.fnExactCaveatHoldsSpec) :=
  OpenClaim.holds_of_wide 3 Tryz.f3 rfl rfl rfl rfl rfl rfl rfl ⟨rfl, rfl, rfl, rfl, rfl⟩ rfl rfl rfl rfl rfl (by kernel_rfl) Tryz.func3 (by kernel_rfl)
    (of_decide_eq_true (by kernel_rfl)) (by unfold Func.isWrapper; rw [if_neg (by decide +kernel)]; exact ⟨rfl, rfl⟩)
    (fun os started H enc _ => lifted os started H enc)
end Go.Proofs.YtmkgehcfdcoliaaGreat.fnExactCaveatHolds
namespace Go.Proofs.YtmkgehcfdcoliaaGreat
theorem fnExactCaveatHolds_holds : Rows.FnExactCaveatHoldsSaid := fnExactCaveatHolds.over
end Go.Proofs.YtmkgehcfdcoliaaGreat
