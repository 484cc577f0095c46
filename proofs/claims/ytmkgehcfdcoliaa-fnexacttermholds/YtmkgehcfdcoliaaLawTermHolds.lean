/- The row of laws.FnExactTermHolds: its walk, then the row's step. -/
import Derived.Test.YtmkgehcfdcoliaaRows
import Derived.Test.YtmkgehcfdcoliaaRThi
import Derived.Test.YtmkgehcfdcoliaaRTh
import Derived.Test.YtmkgehcfdcoliaaRCav
import Derived.Test.YtmkgehcfdcoliaaRTv
import Derived.WalkKit
import Derived.ProofKit
import Derived.OpenShut
import Derived.ShutString
import Derived.ChangeOld
import Derived.Below
import Derived.Lib.SmallJoins
import Derived.Deep.RegionHeld3
namespace Go.Proofs.Ytmkgehcfdcoliaa.fnExactTermHolds
open Go.ChangeShapes Go.WideShapes Go.ChangeAt Go.RowKit Go.Joins
open Go.ChangeMaps (open_string shut_string)
set_option linter.unusedVariables false

theorem own : ownKnob Try.prog.godebug = none := by kernel_rfl
theorem laidOut : laidOutB Try.prog = true := by kernel_rfl

open V in
set_option maxRecDepth 20000 in
set_option maxHeartbeats 2000000 in
theorem walk (t : V.CavTermT) (l : List V.ParamT) (a : Option Addr) (len cap : Nat) (v : V.ValT) (a1 a2 : Option Addr) (l1 c1 l2 c2 : Nat) (w : World) (ht : t.Ok) (hs : V.SlParam w a len l) (hok : ∀ q ∈ l, V.ParamT.Ok q) (hl : len ≤ maxLen)
    (hv : v.Ok) (hs1 : V.SlA w a1 l1 v.items) (hs2 : V.SlS w a2 l2 v.names) (hl1 : l1 ≤ maxLen) (hl2 : l2 ≤ maxLen) :
    Calls Try.prog 4 #[tAgg t, .slice a len cap, vAgg v a1 l1 c1 a2 l2 c2] w fun e w' => e = .returned (.bool true) ∧ Below w.heap.size w w' := by
  have q1 := hide (fun q w h0 h1 => szCavTerm_any t.f0 t.f1 t.f2 t.f3 t.f4 t.f5 t.f6 q w h0 h1 ht.o0 ht.o2 ht.o5 ht.o6)
  have q2 := hide (fun q w h0 h1 hs => szParamS_any a len cap l q w h0 h1 hl hs hok)
  have q3 := hide (fun q w h0 h1 hs1 hs2 => szValue_any v hv a1 a2 l1 c1 l2 c2 q w h0 h1 hl1 hl2 hs1 hs2)
  have HS := hide hs
  have HS1 := hide hs1
  have HS2 := hide hs2
  have HT := hide ht
  have HV := hide hv
  have M1 := hide hl1
  have M2 := hide hl2
  have M0 := hide hl
  clear hs hs1 hs2 ht hv hl1 hl2 hl hok
  obtain ⟨WA, hWA⟩ : ∃ W, W = w.alloc (.cells #[.string t.f0, .int .i64 t.f1, .string t.f2, .int .i64 t.f3, .int .i64 t.f4, .string t.f5, .string t.f6] 38) := ⟨_, rfl⟩
  obtain ⟨W0, hW0⟩ : ∃ W, W = WA.alloc (.cells #[.int .i64 v.k, .int .i64 v.a.x, .int .i64 v.a.n, .string v.a.t, .string v.a.y, .slice a1 l1 c1, .slice a2 l2 c2] 42) := ⟨_, rfl⟩
  have zA' : WA.heap.size = w.heap.size + 1 := by rw [hWA]; simp
  have bA : Below w.heap.size w WA := by rw [hWA]; exact bAl (Below.refl _ _) _
  have b0 : Below WA.heap.size WA W0 := by rw [hW0]; exact bAl (Below.refl _ _) _
  have T0 := hide ((show V.RowIs WA w.heap.size #[.string t.f0, .int .i64 t.f1, .string t.f2, .int .i64 t.f3, .int .i64 t.f4, .string t.f5, .string t.f6] 38 by rw [hWA]; exact V.RowIs.new _ _ _).keep b0)
  have V0 := hide (show V.RowIs W0 (w.heap.size + 1) #[.int .i64 v.k, .int .i64 v.a.x, .int .i64 v.a.n, .string v.a.t, .string v.a.y, .slice a1 l1 c1, .slice a2 l2 c2] 42 by rw [hW0, ← zA']; exact V.RowIs.new _ _ _)
  have B0 := hide (bTr bA b0)
  have HW0 := hide (show (w.alloc (.cells #[.string t.f0, .int .i64 t.f1, .string t.f2, .int .i64 t.f3, .int .i64 t.f4, .string t.f5, .string t.f6] 38)).alloc (.cells #[.int .i64 v.k, .int .i64 v.a.x, .int .i64 v.a.n, .string v.a.t, .string v.a.y, .slice a1 l1 c1, .slice a2 l2 c2] 42) = W0 by rw [hW0, hWA])
  clear hWA hW0 zA' bA b0
  have QV : Hid (∀ w', Below W0.heap.size W0 w' → (w'.cell? ⟨w.heap.size, 0, none⟩ = some (.string t.f0) ∧ w'.cell? ⟨w.heap.size, 1, none⟩ = some (.int .i64 t.f1) ∧ w'.cell? ⟨w.heap.size, 2, none⟩ = some (.string t.f2) ∧ w'.cell? ⟨w.heap.size, 3, none⟩ = some (.int .i64 t.f3) ∧ w'.cell? ⟨w.heap.size, 4, none⟩ = some (.int .i64 t.f4) ∧ w'.cell? ⟨w.heap.size, 5, none⟩ = some (.string t.f5) ∧ w'.cell? ⟨w.heap.size, 6, none⟩ = some (.string t.f6)) ∧ (w'.cell? ⟨w.heap.size + 1, 0, none⟩ = some (.int .i64 v.k) ∧ w'.cell? ⟨w.heap.size + 1, 1, none⟩ = some (.int .i64 v.a.x) ∧ w'.cell? ⟨w.heap.size + 1, 2, none⟩ = some (.int .i64 v.a.n) ∧ w'.cell? ⟨w.heap.size + 1, 3, none⟩ = some (.string v.a.t) ∧ w'.cell? ⟨w.heap.size + 1, 4, none⟩ = some (.string v.a.y) ∧ w'.cell? ⟨w.heap.size + 1, 5, none⟩ = some (.slice a1 l1 c1) ∧ w'.cell? ⟨w.heap.size + 1, 6, none⟩ = some (.slice a2 l2 c2))) := hide (fun w' h => have k := (unhide T0).keep h; have j := (unhide V0).keep h; ⟨⟨k.at rfl, k.at rfl, k.at rfl, k.at rfl, k.at rfl, k.at rfl, k.at rfl⟩, ⟨j.at rfl, j.at rfl, j.at rfl, j.at rfl, j.at rfl, j.at rfl, j.at rfl⟩⟩)
  go_enter Try.func4, Try.ntmps4
  go_wp2_with fail
  rw [unhide HW0]
  refine (unhide q1 _ _ (by omega) (by omega)).mono ?_
  rintro e w1 ⟨⟨m1, hm1, hm2, rfl⟩, hb1⟩
  have C1 := hide hb1
  have D1 := hide (bTr (unhide B0) hb1)
  clear hb1 q1 HW0
  by_cases g1 : m1 < 0
  · go_wp2_with fail
    go_ret
    exact ⟨rfl, unhide D1⟩
  go_wp2_with fail
  refine (unhide q2 _ _ (by omega) (by omega) ((unhide HS).keep (unhide D1))).mono ?_
  rintro e w2 ⟨⟨m2, hn1, hn2, hn3, rfl⟩, hb2⟩
  have C2 := hide (bTr (unhide C1) hb2)
  have D2 := hide (bTr (unhide D1) hb2)
  clear hb2 q2
  by_cases g2 : m2 < 0
  · go_wp2_with fail
    go_ret
    exact ⟨rfl, unhide D2⟩
  have G0 := hide (hn3 (by omega))
  obtain ⟨⟨x0, x1, x2, x3, x4, x5, x6⟩, ⟨v0, v1, v2, v3, v4, v5, v6⟩⟩ := unhide QV w2 (unhide C2)
  go_wp2_with fail
  refine (unhide q3 _ _ (by omega) (by omega) ((unhide HS1).keep (unhide D2)) ((unhide HS2).keep (unhide D2))).mono ?_
  rintro e w3 ⟨⟨m3, ho1, ho2, ho3, rfl⟩, hb3⟩
  have C3 := hide (bTr (unhide C2) hb3)
  have D3 := hide (bTr (unhide D2) hb3)
  clear hb3 q3 x0 x1 x2 x3 x4 x5 x6 v0 v1 v2 v3 v4 v5 v6
  by_cases g3 : m3 < 0
  · go_wp2_with fail
    go_ret
    exact ⟨rfl, unhide D3⟩
  have G1 := hide (ho3 (by omega))
  have gl : len ≤ 1048576 := by have := unhide G0; omega
  have gl1 : l1 ≤ 1048576 := by have := (unhide G1).1; omega
  have gl2 : l2 ≤ 1048576 := by have := (unhide G1).2; omega
  have QT := hide (fun w => toCavTerm_any t.f0 t.f1 t.f2 t.f3 t.f4 t.f5 t.f6 w)
  have QP : Hid (∀ w, V.SlParam w a len l → Calls Try.prog 15 #[.slice a len cap] w fun e w' => ∃ b, e = .returned (.slice (some ⟨b, 0, none⟩) len len) ∧ V.SlParam w' (some ⟨b, 0, none⟩) len l ∧ Below w.heap.size w w') :=
    hide (fun w hs => (toParamS_own a len cap l w gl hs).mono fun _ _ ⟨h1, ⟨_, _, _, h2⟩, h3⟩ => ⟨_, h1, ⟨hs.1, .inr ⟨_, 0, rfl, h2⟩⟩, h3⟩)
  have QW : Hid (∀ w, V.SlA w a1 l1 v.items → V.SlS w a2 l2 v.names → Calls Try.prog 16 #[vAgg v a1 l1 c1 a2 l2 c2] w fun e w' => ∃ b1 b2, e = .returned (vAgg v (some ⟨b1, 0, none⟩) l1 l1 (some ⟨b2, 0, none⟩) l2 l2) ∧ V.SlA w' (some ⟨b1, 0, none⟩) l1 v.items ∧ V.SlS w' (some ⟨b2, 0, none⟩) l2 v.names ∧ Below w.heap.size w w') :=
    hide (fun w hs1 hs2 => (toValue_any v a1 a2 l1 c1 l2 c2 w gl1 gl2 hs1 hs2).mono fun _ _ ⟨b1, b2, h1, h2, h3, h4⟩ => ⟨b1, b2, h1, ⟨hs1.1, .inr ⟨_, 0, rfl, h2⟩⟩, ⟨hs2.1, .inr ⟨_, 0, rfl, h3⟩⟩, h4⟩)
  clear hm1 hm2 hn1 hn2 hn3 ho1 ho2 ho3 g1 g2
  go_wp2_with fail
  go_region_held3 (fun w' => (w'.cell? ⟨w.heap.size, 0, none⟩ = some (.string t.f0) ∧ w'.cell? ⟨w.heap.size, 1, none⟩ = some (.int .i64 t.f1) ∧ w'.cell? ⟨w.heap.size, 2, none⟩ = some (.string t.f2) ∧ w'.cell? ⟨w.heap.size, 3, none⟩ = some (.int .i64 t.f3) ∧ w'.cell? ⟨w.heap.size, 4, none⟩ = some (.int .i64 t.f4) ∧ w'.cell? ⟨w.heap.size, 5, none⟩ = some (.string t.f5) ∧ w'.cell? ⟨w.heap.size, 6, none⟩ = some (.string t.f6)) ∧ (w'.cell? ⟨w.heap.size + 1, 0, none⟩ = some (.int .i64 v.k) ∧ w'.cell? ⟨w.heap.size + 1, 1, none⟩ = some (.int .i64 v.a.x) ∧ w'.cell? ⟨w.heap.size + 1, 2, none⟩ = some (.int .i64 v.a.n) ∧ w'.cell? ⟨w.heap.size + 1, 3, none⟩ = some (.string v.a.t) ∧ w'.cell? ⟨w.heap.size + 1, 4, none⟩ = some (.string v.a.y) ∧ w'.cell? ⟨w.heap.size + 1, 5, none⟩ = some (.slice a1 l1 c1) ∧ w'.cell? ⟨w.heap.size + 1, 6, none⟩ = some (.slice a2 l2 c2)))
    ((exact unhide QV _ (by (repeat (first | exact unhide C7 | exact unhide C6 | exact unhide C5 | exact unhide C4 | exact unhide C3 | refine Below.drew ?_)); (first | done | fail))))
    (first
      | (go_at_call 14; refine (unhide QT _).mono ?_; rintro e w4 ⟨rfl, hb4⟩; have C4 := hide (bTr (unhide C3) (V.undrew hb4)); have D4 := hide (bTr (unhide D3) (V.undrew hb4)); clear hb4)
      | (go_at_call 15; refine (unhide QP _ ?_).mono ?_; (exact (unhide HS).keep (unhide D4)); rintro e w5 ⟨b5, rfl, s5, hb5⟩; have C5 := hide (bTr (unhide C4) hb5); have D5 := hide (bTr (unhide D4) hb5); have S5 := hide s5; clear hb5 s5)
      | (go_at_call 16; refine (unhide QW _ ?_ ?_).mono ?_; (exact (unhide HS1).keep (unhide D5)); (exact (unhide HS2).keep (unhide D5)); rintro e w6 ⟨b6, b7, rfl, s6, s7, hb6⟩; have C6 := hide (bTr (unhide C5) hb6); have D6 := hide (bTr (unhide D5) hb6); have S6 := hide s6; have S7 := hide s7; have S5' := hide ((unhide S5).keep hb6); clear hb6 s6 s7)
      | (go_at_call 13; refine (sTermHolds_any t v (some ⟨b5, 0, none⟩) (some ⟨b6, 0, none⟩) (some ⟨b7, 0, none⟩) len len l1 l1 l2 l2 l _ (unhide HT) (unhide HV) gl (unhide S5') (unhide S6) (unhide S7)).mono ?_; rintro e w7 ⟨⟨r, rfl, hr1, hr2⟩, hb7⟩; have C7 := hide (bTr (unhide C6) hb7); have D7 := hide (bTr (unhide D6) hb7); have HR1 := hide hr1; have HR2 := hide hr2; clear hb7 hr1 hr2))
  clear S5 S5' S6 S7
  go_wp2_with fail
  refine (unhide QP _ ((unhide HS).keep (unhide D7))).mono ?_
  rintro e w8 ⟨b8, rfl, s8, hb8⟩
  have C8 := hide (bTr (unhide C7) hb8)
  have D8 := hide (bTr (unhide D7) hb8)
  have S8 := hide s8
  clear hb8 s8
  obtain ⟨⟨x0, x1, x2, x3, x4, x5, x6⟩, ⟨v0, v1, v2, v3, v4, v5, v6⟩⟩ := unhide QV w8 (unhide C8)
  go_wp2_with fail
  refine (unhide QW _ ((unhide HS1).keep (unhide D8)) ((unhide HS2).keep (unhide D8))).mono ?_
  rintro e w9 ⟨b10, b11, rfl, s10, s11, hb9⟩
  obtain ⟨X, hX⟩ : ∃ W, W = w9.alloc (.cells #[.int .i64 v.k, .int .i64 v.a.x, .int .i64 v.a.n, .string v.a.t, .string v.a.y, .slice (some ⟨b10, 0, none⟩) l1 l1, .slice (some ⟨b11, 0, none⟩) l2 l2] 54) := ⟨_, rfl⟩
  have bX : Below w9.heap.size w9 X := by rw [hX]; exact bAl (Below.refl _ _) _
  have RX := hide (show V.RowIs X w9.heap.size #[.int .i64 v.k, .int .i64 v.a.x, .int .i64 v.a.n, .string v.a.t, .string v.a.y, .slice (some ⟨b10, 0, none⟩) l1 l1, .slice (some ⟨b11, 0, none⟩) l2 l2] 54 by rw [hX]; exact V.RowIs.new _ _ _)
  have CX := hide (bTr (bTr (unhide C8) hb9) bX)
  have DX := hide (bTr (bTr (unhide D8) hb9) bX)
  have T8 := hide (((unhide S8).keep hb9).keep bX)
  have T10 := hide (s10.keep bX)
  have T11 := hide (s11.keep bX)
  have HX := hide hX.symm
  clear hb9 s10 s11 hX bX S8 x0 x1 x2 x3 x4 x5 x6 v0 v1 v2 v3 v4 v5 v6
  have QX : Hid (∀ w', Below X.heap.size X w' → ((w'.cell? ⟨w.heap.size, 0, none⟩ = some (.string t.f0) ∧ w'.cell? ⟨w.heap.size, 1, none⟩ = some (.int .i64 t.f1) ∧ w'.cell? ⟨w.heap.size, 2, none⟩ = some (.string t.f2) ∧ w'.cell? ⟨w.heap.size, 3, none⟩ = some (.int .i64 t.f3) ∧ w'.cell? ⟨w.heap.size, 4, none⟩ = some (.int .i64 t.f4) ∧ w'.cell? ⟨w.heap.size, 5, none⟩ = some (.string t.f5) ∧ w'.cell? ⟨w.heap.size, 6, none⟩ = some (.string t.f6)) ∧ (w'.cell? ⟨w.heap.size + 1, 0, none⟩ = some (.int .i64 v.k) ∧ w'.cell? ⟨w.heap.size + 1, 1, none⟩ = some (.int .i64 v.a.x) ∧ w'.cell? ⟨w.heap.size + 1, 2, none⟩ = some (.int .i64 v.a.n) ∧ w'.cell? ⟨w.heap.size + 1, 3, none⟩ = some (.string v.a.t) ∧ w'.cell? ⟨w.heap.size + 1, 4, none⟩ = some (.string v.a.y) ∧ w'.cell? ⟨w.heap.size + 1, 5, none⟩ = some (.slice a1 l1 c1) ∧ w'.cell? ⟨w.heap.size + 1, 6, none⟩ = some (.slice a2 l2 c2))) ∧ (w'.cell? ⟨w9.heap.size, 0, none⟩ = some (.int .i64 v.k) ∧ w'.cell? ⟨w9.heap.size, 1, none⟩ = some (.int .i64 v.a.x) ∧ w'.cell? ⟨w9.heap.size, 2, none⟩ = some (.int .i64 v.a.n) ∧ w'.cell? ⟨w9.heap.size, 3, none⟩ = some (.string v.a.t) ∧ w'.cell? ⟨w9.heap.size, 4, none⟩ = some (.string v.a.y) ∧ w'.cell? ⟨w9.heap.size, 5, none⟩ = some (.slice (some ⟨b10, 0, none⟩) l1 l1) ∧ w'.cell? ⟨w9.heap.size, 6, none⟩ = some (.slice (some ⟨b11, 0, none⟩) l2 l2))) := hide (fun w' h => have j := (unhide RX).keep h; ⟨unhide QV w' (bTr (unhide CX) h), ⟨j.at rfl, j.at rfl, j.at rfl, j.at rfl, j.at rfl, j.at rfl, j.at rfl⟩⟩)
  go_wp2_with fail
  rw [unhide HX]
  clear HX
  go_region_held3 (fun w' => ((w'.cell? ⟨w.heap.size, 0, none⟩ = some (.string t.f0) ∧ w'.cell? ⟨w.heap.size, 1, none⟩ = some (.int .i64 t.f1) ∧ w'.cell? ⟨w.heap.size, 2, none⟩ = some (.string t.f2) ∧ w'.cell? ⟨w.heap.size, 3, none⟩ = some (.int .i64 t.f3) ∧ w'.cell? ⟨w.heap.size, 4, none⟩ = some (.int .i64 t.f4) ∧ w'.cell? ⟨w.heap.size, 5, none⟩ = some (.string t.f5) ∧ w'.cell? ⟨w.heap.size, 6, none⟩ = some (.string t.f6)) ∧ (w'.cell? ⟨w.heap.size + 1, 0, none⟩ = some (.int .i64 v.k) ∧ w'.cell? ⟨w.heap.size + 1, 1, none⟩ = some (.int .i64 v.a.x) ∧ w'.cell? ⟨w.heap.size + 1, 2, none⟩ = some (.int .i64 v.a.n) ∧ w'.cell? ⟨w.heap.size + 1, 3, none⟩ = some (.string v.a.t) ∧ w'.cell? ⟨w.heap.size + 1, 4, none⟩ = some (.string v.a.y) ∧ w'.cell? ⟨w.heap.size + 1, 5, none⟩ = some (.slice a1 l1 c1) ∧ w'.cell? ⟨w.heap.size + 1, 6, none⟩ = some (.slice a2 l2 c2))) ∧ (w'.cell? ⟨w9.heap.size, 0, none⟩ = some (.int .i64 v.k) ∧ w'.cell? ⟨w9.heap.size, 1, none⟩ = some (.int .i64 v.a.x) ∧ w'.cell? ⟨w9.heap.size, 2, none⟩ = some (.int .i64 v.a.n) ∧ w'.cell? ⟨w9.heap.size, 3, none⟩ = some (.string v.a.t) ∧ w'.cell? ⟨w9.heap.size, 4, none⟩ = some (.string v.a.y) ∧ w'.cell? ⟨w9.heap.size, 5, none⟩ = some (.slice (some ⟨b10, 0, none⟩) l1 l1) ∧ w'.cell? ⟨w9.heap.size, 6, none⟩ = some (.slice (some ⟨b11, 0, none⟩) l2 l2)))
    ((exact unhide QX _ (by (repeat (first | exact unhide E12 | exact unhide E11 | exact Below.refl _ _ | refine Below.drew ?_)); (first | done | fail))))
    (first
      | (go_at_call 14; refine (unhide QT _).mono ?_; rintro e w11 ⟨rfl, hb11⟩; have E11 := hide (show Below X.heap.size X w11 from V.undrew hb11); clear hb11)
      | (go_at_call 17; refine (iTermHolds_any t v (some ⟨b8, 0, none⟩) (some ⟨b10, 0, none⟩) (some ⟨b11, 0, none⟩) len len l1 l1 l2 l2 l _ (unhide HT) (unhide HV) gl (unhide M1) ((unhide T8).keep (unhide E11)) ((unhide T10).keep (unhide E11)) ((unhide T11).keep (unhide E11))).mono ?_; rintro e w12 ⟨⟨r', rfl, hr1, hr2⟩, hb12⟩; have E12 := hide (bTr (unhide E11) hb12); have HR3 := hide hr1; have HR4 := hide hr2; clear hb12 hr1 hr2))
  obtain rfl : r' = r := by
    by_cases h : V.askT t v
    · rw [unhide HR3 h, unhide HR1 h]
    · rw [unhide HR4 h, unhide HR2 h]
  clear HR1 HR2 HR3 HR4
  go_wp2_with fail
  refine (unhide QP _ ((unhide HS).keep (bTr (unhide DX) (unhide E12)))).mono ?_
  rintro e w13 ⟨b13, rfl, s13, hb13⟩
  have E13 := hide (bTr (unhide E12) hb13)
  have qe := hide (eqParamS_same (some ⟨b8, 0, none⟩) (some ⟨b13, 0, none⟩) len len len len l w13 ((unhide T8).keep (unhide E13)) s13 (unhide M0))
  clear hb13 s13
  go_wp2_with fail
  refine (unhide qe).mono ?_
  rintro e w14 ⟨rfl, hb14⟩
  have E14 := hide (bTr (unhide E13) hb14)
  have D14 := hide (bTr (unhide DX) (unhide E14))
  clear hb14 qe
  go_wp2_with fail
  go_region_held3 (fun w' => ((w'.cell? ⟨w.heap.size, 0, none⟩ = some (.string t.f0) ∧ w'.cell? ⟨w.heap.size, 1, none⟩ = some (.int .i64 t.f1) ∧ w'.cell? ⟨w.heap.size, 2, none⟩ = some (.string t.f2) ∧ w'.cell? ⟨w.heap.size, 3, none⟩ = some (.int .i64 t.f3) ∧ w'.cell? ⟨w.heap.size, 4, none⟩ = some (.int .i64 t.f4) ∧ w'.cell? ⟨w.heap.size, 5, none⟩ = some (.string t.f5) ∧ w'.cell? ⟨w.heap.size, 6, none⟩ = some (.string t.f6)) ∧ (w'.cell? ⟨w.heap.size + 1, 0, none⟩ = some (.int .i64 v.k) ∧ w'.cell? ⟨w.heap.size + 1, 1, none⟩ = some (.int .i64 v.a.x) ∧ w'.cell? ⟨w.heap.size + 1, 2, none⟩ = some (.int .i64 v.a.n) ∧ w'.cell? ⟨w.heap.size + 1, 3, none⟩ = some (.string v.a.t) ∧ w'.cell? ⟨w.heap.size + 1, 4, none⟩ = some (.string v.a.y) ∧ w'.cell? ⟨w.heap.size + 1, 5, none⟩ = some (.slice a1 l1 c1) ∧ w'.cell? ⟨w.heap.size + 1, 6, none⟩ = some (.slice a2 l2 c2))) ∧ (w'.cell? ⟨w9.heap.size, 0, none⟩ = some (.int .i64 v.k) ∧ w'.cell? ⟨w9.heap.size, 1, none⟩ = some (.int .i64 v.a.x) ∧ w'.cell? ⟨w9.heap.size, 2, none⟩ = some (.int .i64 v.a.n) ∧ w'.cell? ⟨w9.heap.size, 3, none⟩ = some (.string v.a.t) ∧ w'.cell? ⟨w9.heap.size, 4, none⟩ = some (.string v.a.y) ∧ w'.cell? ⟨w9.heap.size, 5, none⟩ = some (.slice (some ⟨b10, 0, none⟩) l1 l1) ∧ w'.cell? ⟨w9.heap.size, 6, none⟩ = some (.slice (some ⟨b11, 0, none⟩) l2 l2)))
    ((exact unhide QX _ (by (repeat (first | exact unhide E16 | exact unhide E15 | exact unhide E14 | refine Below.drew ?_)); (first | done | fail))))
    (first
      | (go_at_call 16; refine (unhide QW _ ?_ ?_).mono ?_; (exact (unhide HS1).keep (unhide D14).drew); (exact (unhide HS2).keep (unhide D14).drew); rintro e w15 ⟨b15, b16, rfl, s15, s16, hb15⟩; have E15 := hide (bTr (unhide E14) (V.undrew hb15)); have S15 := hide s15; have S16 := hide s16; clear hb15 s15 s16)
      | (go_at_call 19; refine (eqValue_same v (some ⟨b10, 0, none⟩) (some ⟨b11, 0, none⟩) (some ⟨b15, 0, none⟩) (some ⟨b16, 0, none⟩) l1 l1 l2 l2 l1 l1 l2 l2 _ (unhide M1) (unhide M2) ((unhide T10).keep (unhide E15)) ((unhide T11).keep (unhide E15)) (unhide S15) (unhide S16)).mono ?_; rintro e w16 ⟨rfl, hb16⟩; have E16 := hide (bTr (unhide E15) hb16); clear hb16))
  all_goals
    go_wp2_with fail
    go_ret
    exact ⟨rfl, bTr (unhide DX) (unhide E16)⟩

set_option maxRecDepth 100000 in
theorem lifted (os : Os) (started : os.Started) (H : Type) (enc : TypeId × Value → H) :
    ReturnsInHanded {} Try.checked os 4 .any (Rows.fnExactTermHoldsSpec.pre6 enc Try.prog Try.f4 Rows.fnExactTermHoldsRow.domain false) (Rows.fnExactTermHoldsSpec.post enc Try.prog Try.f4 false true false false) := by
  refine returnsInHanded_of_change (C := Try.checked) own started (by kernel_rfl) Try.func4
    (ChangeSpec.witness6 (enc := enc) (C := Try.checked) false ⟨#[], #[.agg #[.string ByteArray.empty, .int .i64 0, .string ByteArray.empty, .int .i64 0, .int .i64 0, .string ByteArray.empty, .string ByteArray.empty], .slice none 0 0, .agg #[.int .i64 0, .int .i64 0, .int .i64 0, .string ByteArray.empty, .string ByteArray.empty, .slice none 0 0, .slice none 0 0]], []⟩ 8 (by kernel_rfl) (by kernel_rfl) (by kernel_rfl) (by kernel_rfl)) ?_
  intro W base args ds gs before hval0 hW hcnd _
  have hval : ∀ (j : Nat) t v, Try.f4.params[j]? = some t → args[j]? = some v → Value.okWide Try.prog W .any base t v := hval0
  have hW' := hW
  obtain ⟨p, q, hA0, hV, rfl, hfz, hnd⟩ := hW
  have hA : DataW.TrodAll enc Try.prog W 0 (fun _ => true) true Try.f4.params.toList args.toList ds p := hA0
  rw [Try.params4] at hA hval
  obtain ⟨v0, vs0, d0, ds0, p0, q0, hargs, rfl, rfl, h0, r0⟩ := trodAll_cons hA
  obtain ⟨v1, vs1, d1, ds1, p1, q1, rfl, rfl, rfl, h1, r1⟩ := trodAll_cons r0
  obtain ⟨v2, vs2, d2, ds2, p2, q2, rfl, rfl, rfl, h2, r2⟩ := trodAll_cons r1
  obtain ⟨rfl, rfl, rfl⟩ := trodAll_nil r2
  obtain rfl : args = #[v0, v1, v2] := by cases args; simp_all
  obtain ⟨rfl, rfl⟩ := trodVars_none hV
  have k0 := h0
  have lt0 : ∀ x ∈ p0, x.block < W.heap.size := by obtain ⟨m, hm⟩ := k0; exact DataW.trod_lt m _ _ _ hm
  obtain ⟨c0, e0, o0⟩ := V.readv_term (hval 0 38 v0 rfl rfl) h0
  subst e0
  have k1 := h1
  have lt1 : ∀ x ∈ p1, x.block < W.heap.size := by obtain ⟨m, hm⟩ := k1; exact DataW.trod_lt m _ _ _ hm
  obtain ⟨l1, a1, len1, cap1, e1, s1, o1, m1⟩ := V.read_Params (hval 1 22 v1 rfl rfl) h1
  subst e1
  have k2 := h2
  have lt2 : ∀ x ∈ p2, x.block < W.heap.size := by obtain ⟨m, hm⟩ := k2; exact DataW.trod_lt m _ _ _ hm
  obtain ⟨g2, a2, z2, len2, cap2, lem2, cam2, e2, o2, s2, y2, m2, m2'⟩ := V.read_value (hval 2 42 v2 rfl rfl) h2
  subst e2
  clear hA0 hval0
  refine (walk c0 l1 a1 len1 cap1 g2 a2 z2 len2 cap2 lem2 cam2 W o0 s1 o1 m1 o2 s2 y2 m2 m2').mono fun e W' ⟨he, bel⟩ => ?_
  subst he
  exact ⟨_, rfl, _, _, _, [], _, [], hW', trodAll_mk1 (shut_bool Try.underlying4 _), (trodAll_cons_mk (Below.trod laidOut (by kernel_rfl) (of_decide_eq_true (by kernel_rfl)) k0 bel lt0) (trodAll_cons_mk (Below.trod laidOut (by kernel_rfl) (of_decide_eq_true (by kernel_rfl)) k1 bel lt1) (trodAll_cons_mk (Below.trod laidOut (by kernel_rfl) (of_decide_eq_true (by kernel_rfl)) k2 bel lt2) trodAll_mk0))), rfl, bel.frame _, fun h => by cases h⟩

theorem over : Rows.fnExactTermHoldsRow.holds Try.pinned (OpenSpec.ofChange Rows.fnExactTermHoldsSpec) :=
  OpenClaim.holds_of_wide 4 Try.f4 rfl rfl rfl rfl rfl rfl rfl ⟨rfl, rfl, rfl, rfl, rfl⟩ rfl rfl rfl rfl rfl (by kernel_rfl) Try.func4 (by kernel_rfl)
    (of_decide_eq_true (by kernel_rfl)) (by unfold Func.isWrapper; rw [if_neg (by decide +kernel)]; exact ⟨rfl, rfl⟩)
    (fun os started H enc _ => lifted os started H enc)
end Go.Proofs.Ytmkgehcfdcoliaa.fnExactTermHolds
namespace Go.Proofs.Ytmkgehcfdcoliaa
theorem fnExactTermHolds_holds : Rows.FnExactTermHoldsSaid := fnExactTermHolds.over
end Go.Proofs.Ytmkgehcfdcoliaa
