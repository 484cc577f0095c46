/- spec.l6Holds, spec.CaveatHolds. -/
import Derived.Test.YtmkgehcfdcoliaaGreatRHol
import Derived.Test.YtmkgehcfdcoliaaGreatRSpC
namespace Go.Proofs.YtmkgehcfdcoliaaGreat.V
open Go.RowKit

set_option maxRecDepth 20000 in
set_option maxHeartbeats 1000000 in
theorem l6Holds_any (nm : ByteArray) (l : List ParamT) (ts : List CavTermT) (v : ValT) (a1 a2 b1 b2 : Option Addr) (l1 c1 l2 c2 m1 d1 m2 d2 : Nat) (w : World) (hv : v.Ok) (hl1 : l1 ≤ 1048576) (hl2 : l2 ≤ 1048576) (hm2 : m2 ≤ 1000) (he : v.names.length = v.items.length)
    (hs1 : SlParam w a1 l1 l) (hs2 : SlCavTerm w a2 l2 ts) (hot : ∀ q ∈ ts, CavTermT.Ok q) (ht1 : SlA w b1 m1 v.items) (ht2 : SlS w b2 m2 v.names) :
    Calls Tryz.prog 19 #[.agg #[.string nm, .slice a1 l1 c1, .slice a2 l2 c2], vAgg v b1 m1 d1 b2 m2 d2] w fun e w' => e = .returned (.int .i64 (resF (termR l (gOf v)) ts)) ∧ Below w.heap.size w w' := by
  have HS1 := hide hs1
  have HS2 := hide hs2
  have HT1 := hide ht1
  have HT2 := hide ht2
  have L2 := hide hs2.1
  have q := hide (fun t ht w h1 h2 h3 => l6Term_any t v a1 b1 b2 l1 c1 m1 d1 m2 d2 l w ht hv hl1 hm2 he h1 h2 h3)
  have HO := hide hot
  clear hs1 hs2 ht1 ht2 hot hv he
  generalize hF : termR l (gOf v) = F at *
  have F3 : Hid (∀ t, F t = 0 ∨ F t = 1 ∨ F t = 2) := hide (fun t => by rw [← hF]; exact termR_cases l (gOf v) t)
  clear hF
  obtain ⟨WA, hWA⟩ : ∃ W, W = w.alloc (.cells #[.string nm, .slice a1 l1 c1, .slice a2 l2 c2] 38) := ⟨_, rfl⟩
  obtain ⟨W0, hW0⟩ : ∃ W, W = WA.alloc (.cells #[.int .i64 v.k, .int .i64 v.a.x, .int .i64 v.a.n, .string v.a.t, .string v.a.y, .slice b1 m1 d1, .slice b2 m2 d2] 43) := ⟨_, rfl⟩
  have zA' : WA.heap.size = w.heap.size + 1 := by rw [hWA]; simp
  have bA : Below w.heap.size w WA := by rw [hWA]; exact bAl (Below.refl _ _) _
  have b0 : Below WA.heap.size WA W0 := by rw [hW0]; exact bAl (Below.refl _ _) _
  have T0 := hide ((show RowIs WA w.heap.size #[.string nm, .slice a1 l1 c1, .slice a2 l2 c2] 38 by rw [hWA]; exact RowIs.new _ _ _).keep b0)
  have V0 := hide (show RowIs W0 (w.heap.size + 1) #[.int .i64 v.k, .int .i64 v.a.x, .int .i64 v.a.n, .string v.a.t, .string v.a.y, .slice b1 m1 d1, .slice b2 m2 d2] 43 by rw [hW0, ← zA']; exact RowIs.new _ _ _)
  have B0 := hide (bTr bA b0)
  have HW0 := hide (show (w.alloc (.cells #[.string nm, .slice a1 l1 c1, .slice a2 l2 c2] 38)).alloc (.cells #[.int .i64 v.k, .int .i64 v.a.x, .int .i64 v.a.n, .string v.a.t, .string v.a.y, .slice b1 m1 d1, .slice b2 m2 d2] 43) = W0 by rw [hW0, hWA])
  clear hWA hW0 zA' bA b0
  go_enter Tryz.func19, Tryz.ntmps19
  go_wp2_with fail
  rw [unhide HW0]
  clear HW0
  go_loopw [5, 12] (fun o i w' => ∃ k : Nat, k ≤ l2 ∧ i = .int .i64 k ∧ o = .int .i64 (resF F (ts.take k)) ∧ Hid (Below w.heap.size w w') ∧ Hid (RowIs w' w.heap.size #[.string nm, .slice a1 l1 c1, .slice a2 l2 c2] 38) ∧ Hid (RowIs w' (w.heap.size + 1) #[.int .i64 v.k, .int .i64 v.a.x, .int .i64 v.a.n, .string v.a.t, .string v.a.y, .slice b1 m1 d1, .slice b2 m2 d2] 43)) (fun _ i _ => l2 - (Go.RowKit.intOf i).toNat)
  case atStart => exact ⟨0, Nat.zero_le _, rfl, rfl, B0, T0, V0⟩
  case round =>
    clear B0 T0 V0
    obtain ⟨k, hk, rfl, rfl, hb, hc, hv⟩ := hrel
    by_cases hlt : k < l2
    · have hk' : k < ts.length := by rw [← unhide L2]; exact hlt
      obtain ⟨b, off, rfl, hrow⟩ := ((unhide HS2).keep (unhide hb)).at hlt
      have c0 := hrow.c0 k hk'
      have e1 := hrow.c1 k hk'
      have e2 := hrow.c2 k hk'
      have e3 := hrow.c3 k hk'
      have e4 := hrow.c4 k hk'
      have e5 := hrow.c5 k hk'
      have e6 := hrow.c6 k hk'
      have zk := hrow.z
      have ho := unhide HO _ (List.getElem_mem hk')
      have hst := resF_step F hk'
      have hx := unhide F3 ts[k]
      clear hrow
      generalize ts[k] = A at *
      obtain ⟨W2, hW2⟩ : ∃ W, W = wr.alloc (.cells #[.string A.f0, .int .i64 A.f1, .string A.f2, .int .i64 A.f3, .int .i64 A.f4, .string A.f5, .string A.f6] 81) := ⟨_, rfl⟩
      have b2' : Below wr.heap.size wr W2 := by rw [hW2]; exact bAl (Below.refl _ _) _
      have B2 := hide (bTr (unhide hb) b2')
      have Q := hide (unhide q A ho W2 ((unhide HS1).keep (unhide B2)) ((unhide HT1).keep (unhide B2)) ((unhide HT2).keep (unhide B2)))
      have hc2 := hide ((unhide hc).keep b2')
      have hv2 := hide ((unhide hv).keep b2')
      have HW2 := hide hW2.symm
      have y1 := (unhide hc).at (o := 1) (v := .slice a1 l1 c1) rfl
      have zc := (unhide hc).lt
      have v0 := (unhide hv).at (o := 0) (v := .int .i64 v.k) rfl
      have v1 := (unhide hv).at (o := 1) (v := .int .i64 v.a.x) rfl
      have v2 := (unhide hv).at (o := 2) (v := .int .i64 v.a.n) rfl
      have v3 := (unhide hv).at (o := 3) (v := .string v.a.t) rfl
      have v4 := (unhide hv).at (o := 4) (v := .string v.a.y) rfl
      have v5 := (unhide hv).at (o := 5) (v := .slice b1 m1 d1) rfl
      have v6 := (unhide hv).at (o := 6) (v := .slice b2 m2 d2) rfl
      have zv := (unhide hv).lt
      clear hW2 b2' ho hc hv hb
      generalize F A = x at *
      have hr := resF_cases F (ts.take k)
      generalize resF F (ts.take k) = r at *
      generalize hN : resF F (ts.take (k + 1)) = N at *
      have HN := hide hN
      clear hN
      go_wp2_with fail
      rw [unhide HW2]
      refine (unhide Q).mono ?_
      rintro e w3 ⟨rfl, hb3⟩
      have B3 := hide (bTr (unhide B2) hb3)
      have hc3 := hide ((unhide hc2).keep hb3)
      have hv3 := hide ((unhide hv2).keep hb3)
      clear hb3 Q HW2 B2 hc2 hv2 c0 e1 e2 e3 e4 e5 e6 y1 zc v0 v1 v2 v3 v4 v5 v6 zv
      rcases hx with rfl | rfl | rfl <;> rcases hr with rfl | rfl | rfl
      all_goals
        simp at hst
        subst hst
        go_wp2_with fail
        exact ⟨⟨k + 1, by omega, by go_num, by rw [unhide HN], B3, hc3, hv3⟩, by simp [Go.RowKit.intOf]; omega⟩
    · have ek : k = ts.length := by rw [← unhide L2]; omega
      subst ek
      rw [List.take_length]
      go_wp2_with fail
      go_ret
      exact ⟨rfl, unhide hb⟩

set_option maxRecDepth 20000 in
set_option maxHeartbeats 1000000 in
theorem sCaveatHolds_any (nm : ByteArray) (l : List ParamT) (ts : List CavTermT) (v : ValT) (a1 a2 b1 b2 : Option Addr) (l1 c1 l2 c2 m1 d1 m2 d2 : Nat) (w : World) (hn : nm.size ≤ maxLen) (hv : v.Ok) (hl1 : l1 ≤ 1048576) (hl2 : l2 ≤ 1048576)
    (hs1 : SlParam w a1 l1 l) (hs2 : SlCavTerm w a2 l2 ts) (hok : ∀ q ∈ l, ParamT.Ok q) (hot : ∀ q ∈ ts, CavTermT.Ok q) (ht1 : SlA w b1 m1 v.items) (ht2 : SlS w b2 m2 v.names) :
    Calls Tryz.prog 6 #[.agg #[.string nm, .slice a1 l1 c1, .slice a2 l2 c2], vAgg v b1 m1 d1 b2 m2 d2] w fun e w' => (∃ r : Int, e = .returned (.int .i64 r) ∧ (GCav nm l ts ∧ Rec v → r = resF (termR l (gOf v)) ts) ∧ (¬ (GCav nm l ts ∧ Rec v) → r = -1)) ∧ Below w.heap.size w w' := by
  have HS1 := hide hs1
  have HS2 := hide hs2
  have HT1 := hide ht1
  have HT2 := hide ht2
  have q1 := hide (fun w h1 h2 => sGoodCaveat_any nm l ts a1 a2 l1 c1 l2 c2 w hn hl1 hl2 h1 h2 hok hot)
  have q2 := hide (fun w h1 h2 => l6Record_any v hv b1 b2 m1 d1 m2 d2 w h1 h2)
  have q3 := hide (fun (hr : Rec v) w h1 h2 h3 (h4 : SlS w b2 m2 v.names) => l6Holds_any nm l ts v a1 a2 b1 b2 l1 c1 l2 c2 m1 d1 m2 d2 w hv hl1 hl2 (by rw [h4.1, hr.parts.2.2.1]; have := hr.parts.1; omega) hr.parts.2.2.1 h1 h2 hot h3 h4)
  clear hs1 hs2 ht1 ht2 hot hok hv hl1 hl2 hn
  generalize resF (termR l (gOf v)) ts = RES at *
  obtain ⟨WA, hWA⟩ : ∃ W, W = w.alloc (.cells #[.string nm, .slice a1 l1 c1, .slice a2 l2 c2] 38) := ⟨_, rfl⟩
  obtain ⟨W0, hW0⟩ : ∃ W, W = WA.alloc (.cells #[.int .i64 v.k, .int .i64 v.a.x, .int .i64 v.a.n, .string v.a.t, .string v.a.y, .slice b1 m1 d1, .slice b2 m2 d2] 43) := ⟨_, rfl⟩
  have zA' : WA.heap.size = w.heap.size + 1 := by rw [hWA]; simp
  have bA : Below w.heap.size w WA := by rw [hWA]; exact bAl (Below.refl _ _) _
  have b0 : Below WA.heap.size WA W0 := by rw [hW0]; exact bAl (Below.refl _ _) _
  have T0 := hide ((show RowIs WA w.heap.size #[.string nm, .slice a1 l1 c1, .slice a2 l2 c2] 38 by rw [hWA]; exact RowIs.new _ _ _).keep b0)
  have V0 := hide (show RowIs W0 (w.heap.size + 1) #[.int .i64 v.k, .int .i64 v.a.x, .int .i64 v.a.n, .string v.a.t, .string v.a.y, .slice b1 m1 d1, .slice b2 m2 d2] 43 by rw [hW0, ← zA']; exact RowIs.new _ _ _)
  have B0 := hide (bTr bA b0)
  have HW0 := hide (show (w.alloc (.cells #[.string nm, .slice a1 l1 c1, .slice a2 l2 c2] 38)).alloc (.cells #[.int .i64 v.k, .int .i64 v.a.x, .int .i64 v.a.n, .string v.a.t, .string v.a.y, .slice b1 m1 d1, .slice b2 m2 d2] 43) = W0 by rw [hW0, hWA])
  clear hWA hW0 zA' bA b0
  have NO : Hid (∀ {W : World}, ¬ (GCav nm l ts ∧ Rec v) → Below w.heap.size w W → (∃ r : Int, Ending.returned (.int .i64 (-1)) = .returned (.int .i64 r) ∧ (GCav nm l ts ∧ Rec v → r = RES) ∧ (¬ (GCav nm l ts ∧ Rec v) → r = -1)) ∧ Below w.heap.size w W) := hide (fun h k => ⟨⟨-1, rfl, fun h' => absurd h' h, fun _ => rfl⟩, k⟩)
  go_enter Tryz.func6, Tryz.ntmps6
  go_wp2_with fail
  rw [unhide HW0]
  refine (unhide q1 _ ((unhide HS1).keep (unhide B0)) ((unhide HS2).keep (unhide B0))).mono ?_
  rintro e w1 ⟨⟨b, rfl, hb⟩, hb1⟩
  have HB := hide hb
  have T1 := hide ((unhide T0).keep hb1)
  have V1 := hide ((unhide V0).keep hb1)
  have B1 := hide (bTr (unhide B0) hb1)
  clear hb hb1 q1 T0 V0 B0 HW0
  have v0 := (unhide V1).at (o := 0) (v := .int .i64 v.k) rfl
  have v1 := (unhide V1).at (o := 1) (v := .int .i64 v.a.x) rfl
  have v2 := (unhide V1).at (o := 2) (v := .int .i64 v.a.n) rfl
  have v3 := (unhide V1).at (o := 3) (v := .string v.a.t) rfl
  have v4 := (unhide V1).at (o := 4) (v := .string v.a.y) rfl
  have v5 := (unhide V1).at (o := 5) (v := .slice b1 m1 d1) rfl
  have v6 := (unhide V1).at (o := 6) (v := .slice b2 m2 d2) rfl
  have zv := (unhide V1).lt
  cases b
  · have N : Hid (¬ (GCav nm l ts ∧ Rec v)) := hide (fun h => by have := (unhide HB).2 h.1; cases this)
    go_wp2_with fail
    go_ret
    exact unhide NO (unhide N) (unhide B1)
  have HG := hide ((unhide HB).1 rfl)
  clear HB
  go_wp2_with fail
  refine (unhide q2 _ ((unhide HT1).keep (unhide B1)) ((unhide HT2).keep (unhide B1))).mono ?_
  rintro e w2 ⟨⟨b, rfl, hb⟩, hb2⟩
  have HB := hide hb
  have T2 := (unhide T1).keep hb2
  have V2 := (unhide V1).keep hb2
  have B2 := hide (bTr (unhide B1) hb2)
  clear hb hb2 q2 T1 V1 B1 v0 v1 v2 v3 v4 v5 v6 zv
  cases b
  · have N : Hid (¬ (GCav nm l ts ∧ Rec v)) := hide (fun h => by have := (unhide HB).2 h.2; cases this)
    go_wp2_with fail
    go_ret
    exact unhide NO (unhide N) (unhide B2)
  have HR := hide ((unhide HB).1 rfl)
  have Q3 := hide (unhide q3 (unhide HR) w2 ((unhide HS1).keep (unhide B2)) ((unhide HS2).keep (unhide B2)) ((unhide HT1).keep (unhide B2)) ((unhide HT2).keep (unhide B2)))
  have x0 := T2.at (o := 0) (v := .string nm) rfl
  have x1 := T2.at (o := 1) (v := .slice a1 l1 c1) rfl
  have x2 := T2.at (o := 2) (v := .slice a2 l2 c2) rfl
  have v0 := V2.at (o := 0) (v := .int .i64 v.k) rfl
  have v1 := V2.at (o := 1) (v := .int .i64 v.a.x) rfl
  have v2 := V2.at (o := 2) (v := .int .i64 v.a.n) rfl
  have v3 := V2.at (o := 3) (v := .string v.a.t) rfl
  have v4 := V2.at (o := 4) (v := .string v.a.y) rfl
  have v5 := V2.at (o := 5) (v := .slice b1 m1 d1) rfl
  have v6 := V2.at (o := 6) (v := .slice b2 m2 d2) rfl
  clear HB T2 V2 q3
  go_wp2_with fail
  refine (unhide Q3).mono ?_
  rintro e w3 ⟨rfl, hb3⟩
  have B3 := hide (bTr (unhide B2) hb3)
  clear hb3 Q3
  go_wp2_with fail
  go_ret
  exact ⟨⟨_, rfl, fun _ => rfl, fun h => absurd ⟨unhide HG, unhide HR⟩ h⟩, unhide B3⟩
end Go.Proofs.YtmkgehcfdcoliaaGreat.V
