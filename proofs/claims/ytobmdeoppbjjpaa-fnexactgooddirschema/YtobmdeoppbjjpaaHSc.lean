/- spec.GoodDirSchema. -/
import Derived.Test.YtobmdeoppbjjpaaHSb
import Derived.BigQuiet
import Derived.Deep.CutBlock
import Derived.Deep.DeepCutAuto
namespace Go.Proofs.Ytobmdeoppbjjpaa.V
set_option linter.unusedSimpArgs false
set_option linter.unusedVariables false
open Go.RowKit Go.Maps

set_option maxRecDepth 40000 in
set_option maxHeartbeats 16000000 in
theorem sGoodDirSchema_n (e : DirSchemaE) (w : World) (hn : DirSchemaN e.t) (hm : DirSchemaM w 0 e) :
    Calls Try.prog 5 #[.agg #[.slice e.h0.a e.h0.len e.h0.cap, .slice e.h1.a e.h1.len e.h1.cap]] w fun r w' => RetB r (GDs e.t) ∧ Below w.heap.size w w' := by
  obtain ⟨⟨xt, xa⟩, h0, h1⟩ := e
  obtain ⟨st, sa, _⟩ := hm
  obtain ⟨ot, lt', oa, la', _⟩ := hn
  simp only at st sa ot lt' oa la' ⊢
  obtain ⟨lt, rfl, st⟩ := st
  obtain ⟨la, rfl, sa⟩ := sa
  have D := hide (gds_iff2 lt la)
  have HTN : Hid (∀ e ∈ lt, AttrTypeN e.t) := hide (fun e he => ot _ (List.mem_map_of_mem he))
  have HAN : Hid (∀ e ∈ la, ClassN e.t) := hide (fun e he => oa _ (List.mem_map_of_mem he))
  have HTL := hide st.1
  have HAL := hide sa.1
  have HT := hide st
  have HA := hide sa
  generalize GDs ⟨lt.map (·.t), la.map (·.t)⟩ = G at D ⊢
  have B := hide (bAl (Below.refl w.heap.size w) (.cells #[.slice h0.a h0.len h0.cap, .slice h1.a h1.len h1.cap] 31))
  have R := hide (RowIs.new w #[.slice h0.a h0.len h0.cap, .slice h1.a h1.len h1.cap] 31)
  have LM0 : h0.len ≤ maxLen := by rw [st.1]; simpa using lt'
  have LM1 : h1.len ≤ maxLen := by rw [sa.1]; simpa using la'
  unfold maxLen at LM0 LM1
  clear st sa ot oa lt' la'
  by_cases b0 : (40 : Int) < h0.len
  · have no : Hid (¬ G) := hide (fun g => by have := ((unhide D).1 g).1; have := unhide HTL; omega)
    have d : decide ((40 : Int) < h0.len) = true := decide_eq_true b0
    clear D R
    go_enter Try.func5, Try.ntmps5
    go_wp2_with fail
    go_ret
    exact ⟨retB (b := false) ⟨fun h => (by cases h), fun h => absurd h (unhide no)⟩, unhide B⟩
  have d0 : decide ((40 : Int) < h0.len) = false := by simp; omega
  by_cases b1 : (20 : Int) < h1.len
  · have no : Hid (¬ G) := hide (fun g => by have := ((unhide D).1 g).2.1; have := unhide HAL; omega)
    have d : decide ((20 : Int) < h1.len) = true := decide_eq_true b1
    clear D R
    go_enter Try.func5, Try.ntmps5
    go_wp2_with fail
    go_ret
    exact ⟨retB (b := false) ⟨fun h => (by cases h), fun h => absurd h (unhide no)⟩, unhide B⟩
  have d1 : decide ((20 : Int) < h1.len) = false := by simp; omega
  have L40 : Hid (lt.length ≤ 40) := hide (by have := unhide HTL; omega)
  have A20 : Hid (la.length ≤ 20) := hide (by have := unhide HAL; omega)
  have m0 : h0.len ≤ 40 := by omega
  have m1 : h1.len ≤ 20 := by omega
  clear b0 b1 LM0 LM1
  go_enter Try.func5, Try.ntmps5
  go_wp2_with fail
  go_loopw [32] (fun i w' => ∃ k : Nat, k ≤ h0.len ∧ i = .int .i64 k ∧ Hid (Below w.heap.size w w') ∧ Hid (RowIs w' w.heap.size #[.slice h0.a h0.len h0.cap, .slice h1.a h1.len h1.cap] 31) ∧ Hid (∀ i, i < k → TyAt lt i)) (fun i _ => h0.len - (intOf i).toNat)
  case atStart => exact ⟨0, Nat.zero_le _, rfl, B, R, hide (fun i h => absurd h (Nat.not_lt_zero _))⟩
  case round =>
    clear B R
    obtain ⟨k, hk, rfl, B, R, hA⟩ := hrel
    by_cases hlt : k < h0.len
    case neg =>
      have TALL : Hid (∀ i, i < lt.length → TyAt lt i) := hide (fun i hi => unhide hA i (by have := unhide HTL; omega))
      have q := hide (l3Type_n h0 h1 lt clsW wr (by have := unhide L40; unfold maxLen; omega) ((unhide HT).keep (unhide B)))
      have r0 := (unhide R).at (o := 0) (v := .slice h0.a h0.len h0.cap) rfl
      have r1 := (unhide R).at (o := 1) (v := .slice h1.a h1.len h1.cap) rfl
      clear hA
      go_wp2_with fail
      refine (unhide q).mono ?_
      rintro r w1 ⟨⟨x, b, rfl, hv⟩, hb⟩
      have HV := hide hv
      replace R := hide (((unhide R).keep hb).keep (bAl (Below.refl _ _) (.cells #[.string x.t.f0, .int .i64 x.t.f1, .bool x.t.f2] 38)))
      replace B := hide (bAl (bTr (unhide B) hb) (.cells #[.string x.t.f0, .int .i64 x.t.f1, .bool x.t.f2] 38))
      clear hb hv q r0 r1 hk hlt
      cases b
      case false =>
        have no : Hid (¬ G) := hide (fun g => by
          obtain ⟨y, hy, _⟩ := ((unhide D).1 g).2.2.2.1
          have := unhide HV
          rw [hy] at this
          cases this)
        clear D HV
        go_wp2_with fail
        go_ret
        exact ⟨retB (b := false) ⟨fun h => (by cases h), fun h => absurd h (unhide no)⟩, unhide B⟩
      have D1 : Hid (G → x.t.f1 = 2 ∧ x.t.f2 = false) := hide (fun g => by
        obtain ⟨y, hy, h1, h2⟩ := ((unhide D).1 g).2.2.2.1
        have := unhide HV
        rw [hy] at this
        cases this
        exact ⟨h1, h2⟩)
      by_cases g1 : x.t.f1 = 2
      case neg =>
        have no : Hid (¬ G) := hide (fun g => g1 (unhide D1 g).1)
        have d : (x.t.f1 != 2) = true := by simpa using g1
        clear D D1 HV g1
        go_wp2_with fail
        go_ret
        exact ⟨retB (b := false) ⟨fun h => (by cases h), fun h => absurd h (unhide no)⟩, unhide B⟩
      cases g2 : x.t.f2
      case true =>
        have no : Hid (¬ G) := hide (fun g => by have := (unhide D1 g).2; rw [g2] at this; cases this)
        rw [g2] at B
        clear D D1 HV R
        go_wp2_with fail
        go_ret
        exact ⟨retB (b := false) ⟨fun h => (by cases h), fun h => absurd h (unhide no)⟩, (by first | exact unhide B | (rw [g1] at B; exact unhide B) | (have := unhide B; simp only [g1] at this; exact this))⟩
      have FND : Hid (∃ x, lt.find? (fun c => decide (c.t.f0 = clsW)) = some x ∧ x.t.f1 = 2 ∧ x.t.f2 = false) := hide ⟨x, by have := unhide HV; simpa using this, g1, g2⟩
      have s1 := (unhide R).at (o := 1) (v := .slice h1.a h1.len h1.cap) rfl
      rw [g2] at B R s1
      rw [g1] at B R s1
      clear D1 HV
      go_wp2_with fail
      clear s1 g1 g2
      go_loopw [88] (fun i w' => ∃ k : Nat, k ≤ h1.len ∧ i = .int .i64 k ∧ Hid (Below w.heap.size w w') ∧ Hid (RowIs w' w.heap.size #[.slice h0.a h0.len h0.cap, .slice h1.a h1.len h1.cap] 31) ∧ Hid (∀ i, i < k → CAt lt la i)) (fun i _ => h1.len - (intOf i).toNat)
      case atStart => exact ⟨0, Nat.zero_le _, rfl, B, R, hide (fun i h => absurd h (Nat.not_lt_zero _))⟩
      case round =>
        clear B R
        obtain ⟨k, hk, rfl, B, R, hA⟩ := hrel
        by_cases hlt : k < h1.len
        case neg =>
          have Y : Hid G := hide ((unhide D).2 ⟨unhide L40, unhide A20, unhide TALL, unhide FND, fun i hi => unhide hA i (by have := unhide HAL; omega)⟩)
          clear hA D
          go_wp2_with fail
          go_ret
          exact ⟨retB (b := true) ⟨fun _ => unhide Y, fun _ => rfl⟩, unhide B⟩
        have hk' : k < la.length := by have := unhide HAL; omega
        obtain ⟨b, off, e0, hrow⟩ := ((unhide HA).keep (unhide B)).at hlt
        have RR := hide hrow
        have zk := hrow.z
        have c0 := hrow.c0 k hk'
        have c1 := hrow.c1 k hk'
        have c2 := hrow.c2 k hk'
        have c3 := hrow.c3 k hk'
        have hnk := unhide HAN _ (List.getElem_mem hk')
        have o0 := hide hnk.o0
        obtain ⟨W, hW⟩ : ∃ W, W = wr.alloc (.cells #[.string la[k].t.f0, .string la[k].t.f1, .slice la[k].h2.a la[k].h2.len la[k].h2.cap, .slice la[k].h3.a la[k].h3.len la[k].h3.cap] 45) := ⟨_, rfl⟩
        have bW : Below wr.heap.size wr W := by rw [hW]; exact bAl (Below.refl _ _) _
        have qW : RowIs W wr.heap.size #[.string la[k].t.f0, .string la[k].t.f1, .slice la[k].h2.a la[k].h2.len la[k].h2.cap, .slice la[k].h3.a la[k].h3.len la[k].h3.cap] 45 := by rw [hW]; exact RowIs.new wr _ _
        have HW := hide hW
        have ne : Nonempty (Kept W) := ⟨⟨W, Below.refl _ _⟩⟩
        have qn := hide (fun (q : Kept W) => sGoodName_any la[k].t.f0 (unhide o0) q.w)

        have x0 := kept_cell (W := W) (p := ⟨wr.heap.size, 0, none⟩) qW.lt (qW.at (o := 0) (v := .string la[k].t.f0) rfl)
        have x1 := kept_cell (W := W) (p := ⟨wr.heap.size, 1, none⟩) qW.lt (qW.at (o := 1) (v := .string la[k].t.f1) rfl)
        have x2 := kept_cell (W := W) (p := ⟨wr.heap.size, 2, none⟩) qW.lt (qW.at (o := 2) (v := .slice la[k].h2.a la[k].h2.len la[k].h2.cap) rfl)
        have x3 := kept_cell (W := W) (p := ⟨wr.heap.size, 3, none⟩) qW.lt (qW.at (o := 3) (v := .slice la[k].h3.a la[k].h3.len la[k].h3.cap) rfl)
        have rw_ := (unhide R).keep bW
        have y0 := kept_cell (W := W) (p := ⟨w.heap.size, 0, none⟩) rw_.lt (rw_.at (o := 0) (v := .slice h0.a h0.len h0.cap) rfl)
        have y1 := kept_cell (W := W) (p := ⟨w.heap.size, 1, none⟩) rw_.lt (rw_.at (o := 1) (v := .slice h1.a h1.len h1.cap) rfl)
        have RW := hide rw_
        have bk := hide (bTr (unhide B) bW)
        have qr2 := hide (fun (w' : World) (hb : Below w.heap.size w w') => l3Rising_n la[k].h2 la[k].t.f2 w' hnk.l2 hnk.o2 (((((unhide HA).2.2 _ (List.getElem_mem hk')).m2).keep hb)))
        have qr3 := hide (fun (w' : World) (hb : Below w.heap.size w w') => l3Rising_n la[k].h3 la[k].t.f3 w' hnk.l3 hnk.o3 (((((unhide HA).2.2 _ (List.getElem_mem hk')).m3).keep hb)))
        have EL2 := hide ((unhide HA).2.2 _ (List.getElem_mem hk')).m2.1
        have EL3 := hide ((unhide HA).2.2 _ (List.getElem_mem hk')).m3.1
        have M2 := hide (((unhide HA).2.2 _ (List.getElem_mem hk')).m2)
        have M3 := hide (((unhide HA).2.2 _ (List.getElem_mem hk')).m3)
        have HL2 := hide hnk.l2
        have HL3 := hide hnk.l3
        have HO2 := hide hnk.o2
        have HO3 := hide hnk.o3
        have HO1 := hide hnk.o1
        have NO : Hid (¬ CAt lt la k → ¬ G) := hide (fun h g => h (((unhide D).1 g).2.2.2.2 k hk'))
        have STEP : Hid (CAt lt la k → ∀ i, i < k + 1 → CAt lt la i) := hide (fun g i h1 => by
          rcases Nat.lt_or_ge i k with h2 | h2
          · exact unhide hA i h2
          · obtain rfl : i = k := by omega
            exact g)
        have DC : Hid (CAt lt la k ↔ ((CCond la[k].t ∧ (0 < k → cmpT la[k - 1].t.f0.data.toList la[k].t.f0.data.toList < 0)) ∧ (∀ s ∈ la[k].t.f2, InT lt s) ∧ (∀ s ∈ la[k].t.f3, InT lt s) ∧ EndsF (fstE la) (la.length + 1) la[k].t.f1)) := hide ⟨fun h => h hk', fun h _ => h⟩
        have qc : Hid (0 < k → ∀ (q : Kept W), Calls Try.prog 12 #[.string la[k - 1].t.f0, .string la[k].t.f0] q.w fun e w'' => e = .returned (.int .i64 (cmpT la[k - 1].t.f0.data.toList la[k].t.f0.data.toList)) ∧ Below q.w.heap.size q.w w'') := hide (fun h q => cmpText_any _ _ q.w (unhide HAN _ (List.getElem_mem (by omega))).o0)
        have tp : Hid (0 < k → ∀ q : Kept W, q.w.cell? ⟨b, off + (k - 1) * 4, none⟩ = some (.string la[k - 1].t.f0)) := hide (fun h => by
          have rj := (unhide RR).fr (Fr.below bW 0) (Nat.zero_le _)
          have zj : b < W.heap.size := Nat.lt_of_lt_of_le zk bW.size
          exact kept_cell zj (rj.c0 (k - 1) (by omega)))
        have HA' : Hid (SqClassE w 0 ⟨some ⟨b, off, none⟩, h1.len, h1.cap⟩ la) := hide (by have := unhide HA; rw [← e0]; exact this)
        have BW := hide bW
        have QW := hide qW
        have zkl : k < h1.len := hlt
        unfold CCond at DC
        generalize hr2 : (∀ i (h : i + 1 < la[k].t.f2.length), cmpT la[k].t.f2[i].data.toList la[k].t.f2[i + 1].data.toList < 0) = P2 at qr2
        generalize hr3 : (∀ i (h : i + 1 < la[k].t.f3.length), cmpT la[k].t.f3[i].data.toList la[k].t.f3[i + 1].data.toList < 0) = P3 at qr3
        rw [show RisS la[k].t.f2 = P2 from hr2, show RisS la[k].t.f3 = P3 from hr3] at DC
        clear hW rw_ hA hrow hnk hr2 hr3 RR qW bW
        generalize cmpT la[k - 1].t.f0.data.toList la[k].t.f0.data.toList = cc at DC qc
        generalize la[k - 1] = Pv at *
        generalize la[k] = A at *
        generalize h1.a = aa at e0 y1 RW ⊢
        subst e0
        obtain ⟨T, hT⟩ : ∃ T : Bool, T = true ↔ ¬ ((goodName A.t.f0 = true ∧ ¬ 30 < A.t.f2.length ∧ ¬ 30 < A.t.f3.length ∧ P2 ∧ P3) ∧ (0 < k → cc < 0)) := by
          by_cases h : ((goodName A.t.f0 = true ∧ ¬ 30 < A.t.f2.length ∧ ¬ 30 < A.t.f3.length ∧ P2 ∧ P3) ∧ (0 < k → cc < 0))
          · exact ⟨false, ⟨fun hh => (by cases hh), fun hh => absurd h hh⟩⟩
          · exact ⟨true, ⟨fun _ => h, fun _ => rfl⟩⟩
        have HTT := hide hT
        clear hT
        go_upto_region 15 with fail
        rw [← unhide HW]
        clear HW
        go_cut [137] (fun c wx => c = .bool T ∧ Hid (Below W.heap.size W wx))
        case first =>
          clear NO STEP DC
          by_cases hk0 : k = 0
          · have dj : decide (0 < k) = false := by simp; omega
            have HK0 := hide hk0
            clear hk0 qc tp
            cases g0 : goodName A.t.f0
            case false =>
              have et : T = true := (unhide HTT).2 (fun h => by have := h.1.1; rw [g0] at this; cases this)
              rw [g0] at qn
              clear g0
              clear HTT
              go_wp2_with fail
              clear c0 c1 c2 c3
              refine wp_region_kept (by kernel_rfl) (by kernel_rfl) ?_
              repeat (first
                | go_big_quiet_step (first | (go_at_call 11; with_reducible exact kept_same (unhide qn _)))
                | quiet_step (first | (go_at_call 11; with_reducible exact kept_same (unhide qn _))))
              refine wpQuiet_nil ?_
              rintro _ ⟨q, rfl⟩
              go_wp2_with fail
              go_meet
              exact ⟨by rw [et], hide q.h⟩
            rw [g0] at qn
            by_cases g1 : 30 < A.t.f2.length
            case pos =>
              have d : decide ((30 : Int) < (A.h2.len : Int)) = true := by ((try have e2 := unhide EL2); (try have e3 := unhide EL3); simp; omega)
              have et : T = true := (unhide HTT).2 (fun h => h.1.2.1 g1)
              clear g1
              clear HTT
              go_wp2_with fail
              clear c0 c1 c2 c3
              refine wp_region_kept (by kernel_rfl) (by kernel_rfl) ?_
              repeat (first
                | go_big_quiet_step (first | (go_at_call 11; with_reducible exact kept_same (unhide qn _)))
                | quiet_step (first | (go_at_call 11; with_reducible exact kept_same (unhide qn _))))
              refine wpQuiet_nil ?_
              rintro _ ⟨q, rfl⟩
              go_wp2_with fail
              go_meet
              exact ⟨by rw [et], hide q.h⟩
            have d1 : decide ((30 : Int) < (A.h2.len : Int)) = false := by ((try have e2 := unhide EL2); (try have e3 := unhide EL3); simp; omega)
            by_cases g2 : 30 < A.t.f3.length
            case pos =>
              have d : decide ((30 : Int) < (A.h3.len : Int)) = true := by ((try have e2 := unhide EL2); (try have e3 := unhide EL3); simp; omega)
              have et : T = true := (unhide HTT).2 (fun h => h.1.2.2.1 g2)
              clear g2
              clear HTT
              go_wp2_with fail
              clear c0 c1 c2 c3
              refine wp_region_kept (by kernel_rfl) (by kernel_rfl) ?_
              repeat (first
                | go_big_quiet_step (first | (go_at_call 11; with_reducible exact kept_same (unhide qn _)))
                | quiet_step (first | (go_at_call 11; with_reducible exact kept_same (unhide qn _))))
              refine wpQuiet_nil ?_
              rintro _ ⟨q, rfl⟩
              go_wp2_with fail
              go_meet
              exact ⟨by rw [et], hide q.h⟩
            have d2 : decide ((30 : Int) < (A.h3.len : Int)) = false := by ((try have e2 := unhide EL2); (try have e3 := unhide EL3); simp; omega)
            by_cases g3 : P2
            case neg =>
              have p3 := hide (fun (q : Kept W) => callsF (unhide qr2 q.w (bTr (unhide bk) q.h)) g3)
              have et : T = true := (unhide HTT).2 (fun h => g3 (h.1.2.2.2.1))
              clear g3
              clear HTT
              go_wp2_with fail
              clear c0 c1 c2 c3
              refine wp_region_kept (by kernel_rfl) (by kernel_rfl) ?_
              repeat (first
                | go_big_quiet_step (first | (go_at_call 11; with_reducible exact kept_same (unhide qn _)) | (go_at_call 14; with_reducible exact kept_call (unhide p3 _)))
                | quiet_step (first | (go_at_call 11; with_reducible exact kept_same (unhide qn _)) | (go_at_call 14; with_reducible exact kept_call (unhide p3 _))))
              refine wpQuiet_nil ?_
              rintro _ ⟨q, rfl⟩
              go_wp2_with fail
              go_meet
              exact ⟨by rw [et], hide q.h⟩
            have p3 := hide (fun (q : Kept W) => callsT (unhide qr2 q.w (bTr (unhide bk) q.h)) g3)
            by_cases g4 : P3
            case neg =>
              have p4 := hide (fun (q : Kept W) => callsF (unhide qr3 q.w (bTr (unhide bk) q.h)) g4)
              have et : T = true := (unhide HTT).2 (fun h => g4 (h.1.2.2.2.2))
              clear g4
              clear HTT
              go_wp2_with fail
              clear c0 c1 c2 c3
              refine wp_region_kept (by kernel_rfl) (by kernel_rfl) ?_
              repeat (first
                | go_big_quiet_step (first | (go_at_call 11; with_reducible exact kept_same (unhide qn _)) | (go_at_call 14; with_reducible exact kept_call (unhide p3 _)) | (go_at_call 14; with_reducible exact kept_call (unhide p4 _)))
                | quiet_step (first | (go_at_call 11; with_reducible exact kept_same (unhide qn _)) | (go_at_call 14; with_reducible exact kept_call (unhide p3 _)) | (go_at_call 14; with_reducible exact kept_call (unhide p4 _))))
              refine wpQuiet_nil ?_
              rintro _ ⟨q, rfl⟩
              go_wp2_with fail
              go_meet
              exact ⟨by rw [et], hide q.h⟩
            have p4 := hide (fun (q : Kept W) => callsT (unhide qr3 q.w (bTr (unhide bk) q.h)) g4)
            have et : T = false := Bool.eq_false_iff.2 (fun hT => (unhide HTT).1 hT ⟨⟨g0, g1, g2, g3, g4⟩, fun h => absurd h (by have := unhide HK0; omega)⟩)
            clear HTT g0 g1 g2 g3 g4
            go_wp2_with fail
            clear c0 c1 c2 c3
            refine wp_region_kept (by kernel_rfl) (by kernel_rfl) ?_
            repeat (first
              | go_big_quiet_step (first | (go_at_call 11; with_reducible exact kept_same (unhide qn _)) | (go_at_call 14; with_reducible exact kept_call (unhide p3 _)) | (go_at_call 14; with_reducible exact kept_call (unhide p4 _)))
              | quiet_step (first | (go_at_call 11; with_reducible exact kept_same (unhide qn _)) | (go_at_call 14; with_reducible exact kept_call (unhide p3 _)) | (go_at_call 14; with_reducible exact kept_call (unhide p4 _))))
            refine wpQuiet_nil ?_
            rintro _ ⟨q, rfl⟩
            go_wp2_with fail
            go_meet
            exact ⟨by rw [et], hide q.h⟩
          · have dj : decide (0 < k) = true := decide_eq_true (by omega)
            have t0 := unhide tp (by omega)
            replace qc := hide (unhide qc (by omega))
            obtain ⟨j, hjj⟩ : ∃ j, k - 1 = j := ⟨_, rfl⟩
            rw [hjj] at t0
            have ej : IntKind.i64.wrap ((k : Int) - 1) = (j : Int) := by rw [IntKind.wrap_i64]; omega
            have i0 : (0 : Int) ≤ (j : Int) := by omega
            have i1 : (j : Int) < (h1.len : Int) := by omega
            clear hjj tp
            cases g0 : goodName A.t.f0
            case false =>
              have et : T = true := (unhide HTT).2 (fun h => by have := h.1.1; rw [g0] at this; cases this)
              rw [g0] at qn
              clear g0
              clear HTT
              go_wp2_with fail
              clear c0 c1 c2 c3
              refine wp_region_kept (by kernel_rfl) (by kernel_rfl) ?_
              repeat (first
                | go_big_quiet_step (first | (go_at_call 11; with_reducible exact kept_same (unhide qn _)))
                | quiet_step (first | (go_at_call 11; with_reducible exact kept_same (unhide qn _))))
              refine wpQuiet_nil ?_
              rintro _ ⟨q, rfl⟩
              go_wp2_with fail
              go_meet
              exact ⟨by rw [et], hide q.h⟩
            rw [g0] at qn
            by_cases hc : cc < 0
            case neg =>
              have dc : decide (0 ≤ cc) = true := by simp; omega
              have et : T = true := (unhide HTT).2 (fun h => hc (h.2 (by omega)))
              clear hc
              clear HTT
              go_wp2_with fail
              clear c0 c1 c2 c3
              refine wp_region_kept (by kernel_rfl) (by kernel_rfl) ?_
              repeat (first
                | go_big_quiet_step (first | (go_at_call 11; with_reducible exact kept_same (unhide qn _)) | (go_at_call 12; with_reducible exact kept_call (unhide qc _)))
                | quiet_step (first | (go_at_call 11; with_reducible exact kept_same (unhide qn _)) | (go_at_call 12; with_reducible exact kept_call (unhide qc _))))
              refine wpQuiet_nil ?_
              rintro _ ⟨q, rfl⟩
              go_wp2_with fail
              go_meet
              exact ⟨by rw [et], hide q.h⟩
            have dc : decide (0 ≤ cc) = false := by simp; omega
            by_cases g2 : 30 < A.t.f2.length
            case pos =>
              have d : decide ((30 : Int) < (A.h2.len : Int)) = true := by ((try have e2 := unhide EL2); (try have e3 := unhide EL3); simp; omega)
              have et : T = true := (unhide HTT).2 (fun h => h.1.2.1 g2)
              clear g2
              clear HTT
              go_wp2_with fail
              clear c0 c1 c2 c3
              refine wp_region_kept (by kernel_rfl) (by kernel_rfl) ?_
              repeat (first
                | go_big_quiet_step (first | (go_at_call 11; with_reducible exact kept_same (unhide qn _)) | (go_at_call 12; with_reducible exact kept_call (unhide qc _)))
                | quiet_step (first | (go_at_call 11; with_reducible exact kept_same (unhide qn _)) | (go_at_call 12; with_reducible exact kept_call (unhide qc _))))
              refine wpQuiet_nil ?_
              rintro _ ⟨q, rfl⟩
              go_wp2_with fail
              go_meet
              exact ⟨by rw [et], hide q.h⟩
            have d2 : decide ((30 : Int) < (A.h2.len : Int)) = false := by ((try have e2 := unhide EL2); (try have e3 := unhide EL3); simp; omega)
            by_cases g3 : 30 < A.t.f3.length
            case pos =>
              have d : decide ((30 : Int) < (A.h3.len : Int)) = true := by ((try have e2 := unhide EL2); (try have e3 := unhide EL3); simp; omega)
              have et : T = true := (unhide HTT).2 (fun h => h.1.2.2.1 g3)
              clear g3
              clear HTT
              go_wp2_with fail
              clear c0 c1 c2 c3
              refine wp_region_kept (by kernel_rfl) (by kernel_rfl) ?_
              repeat (first
                | go_big_quiet_step (first | (go_at_call 11; with_reducible exact kept_same (unhide qn _)) | (go_at_call 12; with_reducible exact kept_call (unhide qc _)))
                | quiet_step (first | (go_at_call 11; with_reducible exact kept_same (unhide qn _)) | (go_at_call 12; with_reducible exact kept_call (unhide qc _))))
              refine wpQuiet_nil ?_
              rintro _ ⟨q, rfl⟩
              go_wp2_with fail
              go_meet
              exact ⟨by rw [et], hide q.h⟩
            have d3 : decide ((30 : Int) < (A.h3.len : Int)) = false := by ((try have e2 := unhide EL2); (try have e3 := unhide EL3); simp; omega)
            by_cases g4 : P2
            case neg =>
              have p4 := hide (fun (q : Kept W) => callsF (unhide qr2 q.w (bTr (unhide bk) q.h)) g4)
              have et : T = true := (unhide HTT).2 (fun h => g4 (h.1.2.2.2.1))
              clear g4
              clear HTT
              go_wp2_with fail
              clear c0 c1 c2 c3
              refine wp_region_kept (by kernel_rfl) (by kernel_rfl) ?_
              repeat (first
                | go_big_quiet_step (first | (go_at_call 11; with_reducible exact kept_same (unhide qn _)) | (go_at_call 12; with_reducible exact kept_call (unhide qc _)) | (go_at_call 14; with_reducible exact kept_call (unhide p4 _)))
                | quiet_step (first | (go_at_call 11; with_reducible exact kept_same (unhide qn _)) | (go_at_call 12; with_reducible exact kept_call (unhide qc _)) | (go_at_call 14; with_reducible exact kept_call (unhide p4 _))))
              refine wpQuiet_nil ?_
              rintro _ ⟨q, rfl⟩
              go_wp2_with fail
              go_meet
              exact ⟨by rw [et], hide q.h⟩
            have p4 := hide (fun (q : Kept W) => callsT (unhide qr2 q.w (bTr (unhide bk) q.h)) g4)
            by_cases g5 : P3
            case neg =>
              have p5 := hide (fun (q : Kept W) => callsF (unhide qr3 q.w (bTr (unhide bk) q.h)) g5)
              have et : T = true := (unhide HTT).2 (fun h => g5 (h.1.2.2.2.2))
              clear g5
              clear HTT
              go_wp2_with fail
              clear c0 c1 c2 c3
              refine wp_region_kept (by kernel_rfl) (by kernel_rfl) ?_
              repeat (first
                | go_big_quiet_step (first | (go_at_call 11; with_reducible exact kept_same (unhide qn _)) | (go_at_call 12; with_reducible exact kept_call (unhide qc _)) | (go_at_call 14; with_reducible exact kept_call (unhide p4 _)) | (go_at_call 14; with_reducible exact kept_call (unhide p5 _)))
                | quiet_step (first | (go_at_call 11; with_reducible exact kept_same (unhide qn _)) | (go_at_call 12; with_reducible exact kept_call (unhide qc _)) | (go_at_call 14; with_reducible exact kept_call (unhide p4 _)) | (go_at_call 14; with_reducible exact kept_call (unhide p5 _))))
              refine wpQuiet_nil ?_
              rintro _ ⟨q, rfl⟩
              go_wp2_with fail
              go_meet
              exact ⟨by rw [et], hide q.h⟩
            have p5 := hide (fun (q : Kept W) => callsT (unhide qr3 q.w (bTr (unhide bk) q.h)) g5)
            have et : T = false := Bool.eq_false_iff.2 (fun hT => (unhide HTT).1 hT ⟨⟨g0, g2, g3, g4, g5⟩, fun _ => hc⟩)
            clear HTT g0 g2 g3 g4 g5 hc
            go_wp2_with fail
            clear c0 c1 c2 c3
            refine wp_region_kept (by kernel_rfl) (by kernel_rfl) ?_
            repeat (first
              | go_big_quiet_step (first | (go_at_call 11; with_reducible exact kept_same (unhide qn _)) | (go_at_call 12; with_reducible exact kept_call (unhide qc _)) | (go_at_call 14; with_reducible exact kept_call (unhide p4 _)) | (go_at_call 14; with_reducible exact kept_call (unhide p5 _)))
              | quiet_step (first | (go_at_call 11; with_reducible exact kept_same (unhide qn _)) | (go_at_call 12; with_reducible exact kept_call (unhide qc _)) | (go_at_call 14; with_reducible exact kept_call (unhide p4 _)) | (go_at_call 14; with_reducible exact kept_call (unhide p5 _))))
            refine wpQuiet_nil ?_
            rintro _ ⟨q, rfl⟩
            go_wp2_with fail
            go_meet
            exact ⟨by rw [et], hide q.h⟩
        case rest =>
          obtain ⟨rfl, B1⟩ := hcut
          replace RW := hide ((unhide RW).keep (unhide B1))
          have QX := hide ((unhide QW).keep (unhide B1))
          replace bk := hide (bTr (unhide bk) (unhide B1))
          clear B1 QW BW qn qr2 qr3 x0 x1 x2 x3 y0 y1 c0 c1 c2 c3 qc tp zk o0 ne B R
          cases T
          case true =>
            have no := hide (unhide NO (fun h => (unhide HTT).1 rfl ((unhide DC).1 h).1))
            clear NO STEP DC HTT
            go_wp2_with fail
            go_ret
            exact ⟨retB (b := false) ⟨fun h => (by cases h), fun h => absurd h (unhide no)⟩, unhide bk⟩
          have CD := hide (Classical.byContradiction fun h => by have := (unhide HTT).2 h; cases this)
          have x2 := (unhide QX).at (o := 2) (v := .slice A.h2.a A.h2.len A.h2.cap) rfl
          have x3 := (unhide QX).at (o := 3) (v := .slice A.h3.a A.h3.len A.h3.cap) rfl
          obtain ⟨WP, hWP⟩ : ∃ X, X = wc.alloc (.cells #[.slice A.h2.a A.h2.len A.h2.cap, .slice A.h3.a A.h3.len A.h3.cap] 43) := ⟨_, rfl⟩
          have bP : Below wc.heap.size wc WP := by rw [hWP]; exact bAl (Below.refl _ _) _
          have RP : Hid (RowIs WP wc.heap.size #[.slice A.h2.a A.h2.len A.h2.cap, .slice A.h3.a A.h3.len A.h3.cap] 43) := hide (by rw [hWP]; exact RowIs.new _ _ _)
          replace RW := hide ((unhide RW).keep bP)
          replace QX := hide ((unhide QX).keep bP)
          replace bk := hide (bTr (unhide bk) bP)
          have HWP := hide hWP.symm
          clear HTT hWP bP
          go_wp2_with fail
          rw [unhide HWP]
          clear HWP x2 x3
          generalize wr.heap.size = bx at *
          generalize wc.heap.size = bp at *
          go_loopw [144] (fun i w' => ∃ j : Nat, j ≤ 2 ∧ i = .int .i64 j ∧ Hid (Below w.heap.size w w') ∧ Hid (RowIs w' w.heap.size #[.slice h0.a h0.len h0.cap, .slice (some ⟨b, off, none⟩) h1.len h1.cap] 31) ∧ Hid (RowIs w' bx #[.string A.t.f0, .string A.t.f1, .slice A.h2.a A.h2.len A.h2.cap, .slice A.h3.a A.h3.len A.h3.cap] 45) ∧ Hid (RowIs w' bp #[.slice A.h2.a A.h2.len A.h2.cap, .slice A.h3.a A.h3.len A.h3.cap] 43) ∧ Hid ((1 ≤ j → ∀ s ∈ A.t.f2, InT lt s) ∧ (2 ≤ j → ∀ s ∈ A.t.f3, InT lt s))) (fun i _ => 2 - (intOf i).toNat)
          case atStart => exact ⟨0, Nat.zero_le _, rfl, bk, RW, QX, RP, hide ⟨fun h => absurd h (by omega), fun h => absurd h (by omega)⟩⟩
          case round =>
            clear bk RW QX RP
            obtain ⟨j, hj, rfl, bk, RW, QX, RP, hP⟩ := hrel
            by_cases hj2 : j < 2
            case neg =>
              have x1 := (unhide QX).at (o := 1) (v := .string A.t.f1) rfl
              have FAL := hide (And.intro ((unhide hP).1 (by omega)) ((unhide hP).2 (by omega)))
              have NO3 : Hid (¬ EndsF (fstE la) (la.length + 1) A.t.f1 → ¬ G) := hide (fun h => unhide NO (fun g => h (((unhide DC).1 g).2.2.2)))
              have STEP3 : Hid (EndsF (fstE la) (la.length + 1) A.t.f1 → ∀ i, i < k + 1 → CAt lt la i) := hide (fun h => unhide STEP ((unhide DC).2 ⟨unhide CD, (unhide FAL).1, (unhide FAL).2, h⟩))
              clear NO STEP DC CD FAL hP RP
              go_wp2_with fail
              clear x1 hj hj2
              go_loopw [15, 16] (fun x i w' => ∃ (n : Nat) (t : ByteArray), n ≤ la.length + 1 ∧ x = .string t ∧ i = .int .i64 n ∧ t.size ≤ maxLen ∧ Hid (EndsF (fstE la) (la.length + 1) A.t.f1 ↔ EndsF (fstE la) (la.length + 1 - n) t) ∧ Hid (Below w.heap.size w w') ∧ Hid (RowIs w' w.heap.size #[.slice h0.a h0.len h0.cap, .slice (some ⟨b, off, none⟩) h1.len h1.cap] 31)) (fun _ i _ => la.length + 2 - (intOf i).toNat)
              case atStart => exact ⟨0, A.t.f1, Nat.zero_le _, rfl, rfl, unhide HO1, hide Iff.rfl, bk, RW⟩
              case round =>
                clear bk RW QX
                obtain ⟨n, t, hn, rfl, rfl, ht, E, bk, RW⟩ := hrel
                by_cases he : t = ⟨#[]⟩
                · have S := hide (unhide STEP3 ((unhide E).2 (by rw [he]; exact ends_empty _ _)))
                  subst he
                  clear E NO3 STEP3
                  go_wp2_with fail
                  exact ⟨⟨k + 1, by omega, by go_num, bk, RW, S⟩, by simp [intOf]; omega⟩
                have ne1 : (t.toList == []) = false := by
                  have := str_neY he
                  simpa using this
                have q := hide (l3Class_n h0 ⟨some ⟨b, off, none⟩, h1.len, h1.cap⟩ la t wr (by have := unhide A20; unfold maxLen; omega) ((unhide HA').keep (unhide bk)))
                have r0 := (unhide RW).at (o := 0) (v := .slice h0.a h0.len h0.cap) rfl
                have r1 := (unhide RW).at (o := 1) (v := .slice (some ⟨b, off, none⟩) h1.len h1.cap) rfl
                have HE := hide he
                clear he
                go_wp2_with fail
                refine (unhide q).mono ?_
                rintro r w1 ⟨⟨x, bb, rfl, hv⟩, hb⟩
                have FE : Hid (fstE la t = if bb = true then some x.t else none) := hide (by unfold fstE; rw [hv]; cases bb <;> rfl)
                have FM : Hid (bb = true → x.t.f1.size ≤ maxLen) := hide (fun h => by
                  rw [h] at hv
                  exact (unhide HAN x (List.mem_of_find?_eq_some hv)).o1)
                have RQ := hide ((RowIs.new w1 #[.string x.t.f0, .string x.t.f1, .slice x.h2.a x.h2.len x.h2.cap, .slice x.h3.a x.h3.len x.h3.cap] 45))
                have RN := hide (((unhide RW).keep hb).keep (bAl (Below.refl _ _) (.cells #[.string x.t.f0, .string x.t.f1, .slice x.h2.a x.h2.len x.h2.cap, .slice x.h3.a x.h3.len x.h3.cap] 45)))
                have BN := hide (bAl (bTr (unhide bk) hb) (.cells #[.string x.t.f0, .string x.t.f1, .slice x.h2.a x.h2.len x.h2.cap, .slice x.h3.a x.h3.len x.h3.cap] 45))
                have zl : w.heap.size < w1.heap.size := ((unhide RW).keep hb).lt
                clear hb hv q r0 r1 bk RW
                cases bb
                case false =>
                  have no := hide (unhide NO3 (fun g => by
                    have g2 := (unhide E).1 g
                    have fe := unhide FE
                    cases hj : la.length + 1 - n with
                    | zero => rw [hj] at g2; exact unhide HE g2
                    | succ j =>
                      rw [hj] at g2
                      rcases g2 with g2 | ⟨c, g2, _⟩
                      · exact unhide HE g2
                      · rw [fe] at g2; cases g2))
                  clear E FE NO3 STEP3 FM RQ RN
                  go_wp2_with fail
                  go_ret
                  exact ⟨retB (b := false) ⟨fun h => (by cases h), fun h => absurd h (unhide no)⟩, unhide BN⟩
                have s1 := (unhide RN).at (o := 1) (v := .slice (some ⟨b, off, none⟩) h1.len h1.cap) rfl
                have LL := unhide HAL
                by_cases hnK : h1.len < n
                · have no := hide (unhide NO3 (fun g => by
                    have g2 := (unhide E).1 g
                    rw [show la.length + 1 - n = 0 by omega] at g2
                    exact unhide HE g2))
                  have dA : decide (h1.len < n) = true := decide_eq_true hnK
                  clear E FE NO3 STEP3 FM RQ RN LL
                  go_wp2_with fail
                  go_ret
                  exact ⟨retB (b := false) ⟨fun h => (by cases h), fun h => absurd h (unhide no)⟩, unhide BN⟩
                have dA : decide (h1.len < n) = false := by simp; omega
                have E2 : Hid (EndsF (fstE la) (la.length + 1) A.t.f1 ↔ EndsF (fstE la) (la.length + 1 - (n + 1)) x.t.f1) := hide ((unhide E).trans (by
                  obtain ⟨j, hj⟩ : ∃ j, la.length + 1 - n = j + 1 := ⟨la.length - n, by omega⟩
                  rw [hj, show la.length + 1 - (n + 1) = j by omega]
                  exact ends_step (by rw [unhide FE]; rfl) (unhide HE)))
                have zt := unhide FM rfl
                have y1 := (unhide RQ).at (o := 1) (v := .string x.t.f1) rfl
                have hn2 : n + 1 ≤ la.length + 1 := by omega
                have HN2 := hide hn2
                clear E FE NO3 STEP3 FM RQ LL hn2 hn
                go_wp2_with fail
                exact ⟨⟨n + 1, x.t.f1, unhide HN2, rfl, by go_num, zt, E2, BN, RN⟩, by have := unhide HN2; simp [intOf]; omega⟩
            obtain ⟨hh, L, hcell, hsq, hlen, hos, hno, hst⟩ : ∃ (hh : Hd) (L : List ByteArray), (#[.slice A.h2.a A.h2.len A.h2.cap, .slice A.h3.a A.h3.len A.h3.cap] : Array Value)[j]? = some (.slice hh.a hh.len hh.cap) ∧ SqS w 0 hh L ∧ L.length ≤ maxLen ∧ (∀ q ∈ L, ByteArray.size q ≤ maxLen) ∧ (¬ (∀ s ∈ L, InT lt s) → ¬ G) ∧ ((∀ s ∈ L, InT lt s) → ((1 ≤ j + 1 → ∀ s ∈ A.t.f2, InT lt s) ∧ (2 ≤ j + 1 → ∀ s ∈ A.t.f3, InT lt s))) := by
              rcases (by omega : j = 0 ∨ j = 1) with rfl | rfl
              · exact ⟨A.h2, A.t.f2, rfl, unhide M2, unhide HL2, unhide HO2, fun h => unhide NO (fun g => h ((unhide DC).1 g).2.1), fun h => ⟨fun _ => h, fun h2 => absurd h2 (by omega)⟩⟩
              · exact ⟨A.h3, A.t.f3, rfl, unhide M3, unhide HL3, unhide HO3, fun h => unhide NO (fun g => h ((unhide DC).1 g).2.2.1), fun h => ⟨fun _ => (unhide hP).1 (by omega), fun _ => h⟩⟩
            have HSQ := hide hsq
            have HLE := hide hsq.1
            have HLN := hide hlen
            have HOS := hide hos
            have NOL := hide hno
            have STL := hide hst
            have cp := (unhide RP).at (o := j) hcell
            have LMh : hh.len ≤ maxLen := by rw [hsq.1]; exact hlen
            unfold maxLen at LMh
            clear hcell hsq hlen hos hno hst hP
            obtain ⟨hha, hhl, hhc⟩ := hh
            simp only at LMh cp HLE
            have dj2 : decide ((j : Int) < 2) = true := decide_eq_true (by omega)
            go_wp2_with fail
            clear cp
            go_loopw [150] (fun i w' => ∃ m : Nat, m ≤ hhl ∧ i = .int .i64 m ∧ Hid (Below w.heap.size w w') ∧ Hid (RowIs w' w.heap.size #[.slice h0.a h0.len h0.cap, .slice (some ⟨b, off, none⟩) h1.len h1.cap] 31) ∧ Hid (RowIs w' bx #[.string A.t.f0, .string A.t.f1, .slice A.h2.a A.h2.len A.h2.cap, .slice A.h3.a A.h3.len A.h3.cap] 45) ∧ Hid (RowIs w' bp #[.slice A.h2.a A.h2.len A.h2.cap, .slice A.h3.a A.h3.len A.h3.cap] 43) ∧ Hid (∀ i (h : i < L.length), i < m → InT lt L[i])) (fun i _ => hhl - (intOf i).toNat)
            case atStart => exact ⟨0, Nat.zero_le _, rfl, bk, RW, QX, RP, hide (fun i _ h => absurd h (Nat.not_lt_zero _))⟩
            case round =>
              clear bk RW QX RP
              obtain ⟨m, hm, rfl, bk, RW, QX, RP, hI⟩ := hrel
              by_cases hm2 : m < hhl
              case neg =>
                have P3' := hide (unhide STL (fun s hs => by
                  obtain ⟨i, hi, rfl⟩ := List.getElem_of_mem hs
                  exact unhide hI i hi (by have := unhide HLE; omega)))
                clear hI NOL STL
                go_wp2_with fail
                exact ⟨⟨j + 1, by omega, by go_num, bk, RW, QX, RP, P3'⟩, by simp [intOf]; omega⟩
              have hm' : m < L.length := by have := unhide HLE; omega
              obtain ⟨b5, off5, e5, row5⟩ := ((unhide HSQ).keep (unhide bk)).sl.at hm2
              have n0 := row5.c m hm'
              have NOP : Hid (¬ InT lt L[m] → ¬ G) := hide (fun g => unhide NOL (fun h => g (h _ (List.getElem_mem hm'))))
              have STM : Hid (InT lt L[m] → ∀ i (h : i < L.length), i < m + 1 → InT lt L[i]) := hide (fun g i hi h1 => by
                rcases Nat.lt_or_ge i m with h2 | h2
                · exact unhide hI i hi h2
                · obtain rfl : i = m := by omega
                  exact g)
              have q := hide (l3Type_n h0 ⟨some ⟨b, off, none⟩, h1.len, h1.cap⟩ lt L[m] wr (by have := unhide L40; unfold maxLen; omega) ((unhide HT).keep (unhide bk)))
              have IT : Hid (∀ (bb : Bool) (x : AttrTypeE), lt.find? (fun c => decide (c.t.f0 = L[m])) = (if bb = true then some x else none) → (bb = true ↔ InT lt L[m])) := hide (fun bb x hv => by
                unfold InT
                cases bb
                · refine ⟨fun h => (by cases h), fun h => ?_⟩
                  obtain ⟨t, ht, h2⟩ := List.mem_map.1 h
                  obtain ⟨e, he, rfl⟩ := List.mem_map.1 ht
                  have := (List.find?_eq_none.1 hv) e he
                  simp [h2] at this
                · refine ⟨fun _ => ?_, fun _ => rfl⟩
                  have h1 := List.mem_of_find?_eq_some hv
                  have h2 := List.find?_some hv
                  exact List.mem_map.2 ⟨x.t, List.mem_map_of_mem h1, by simpa using h2⟩)
              have r0 := (unhide RW).at (o := 0) (v := .slice h0.a h0.len h0.cap) rfl
              have r1 := (unhide RW).at (o := 1) (v := .slice (some ⟨b, off, none⟩) h1.len h1.cap) rfl
              clear row5 hI
              generalize InT lt L[m] = PP at NOP STM IT
              generalize L[m] = sn at *
              simp only at e5
              subst e5
              go_wp2_with fail
              refine (unhide q).mono ?_
              rintro r w1 ⟨⟨x, bb, rfl, hv⟩, hb⟩
              have HV := hide (unhide IT bb x hv)
              have BN := hide (bAl (bTr (unhide bk) hb) (.cells #[.string x.t.f0, .int .i64 x.t.f1, .bool x.t.f2] 38))
              have RN := hide (((unhide RW).keep hb).keep (bAl (Below.refl _ _) (.cells #[.string x.t.f0, .int .i64 x.t.f1, .bool x.t.f2] 38)))
              have QN := hide (((unhide QX).keep hb).keep (bAl (Below.refl _ _) (.cells #[.string x.t.f0, .int .i64 x.t.f1, .bool x.t.f2] 38)))
              have PN := hide (((unhide RP).keep hb).keep (bAl (Below.refl _ _) (.cells #[.string x.t.f0, .int .i64 x.t.f1, .bool x.t.f2] 38)))
              clear hb hv q r0 r1 IT bk RW QX RP n0
              cases bb
              · have no := hide (unhide NOP (fun h => by have := (unhide HV).2 h; cases this))
                clear NOP STM HV NOL STL RN QN PN
                go_wp2_with fail
                go_ret
                exact ⟨retB (b := false) ⟨fun h => (by cases h), fun h => absurd h (unhide no)⟩, unhide BN⟩
              · have S := hide (unhide STM ((unhide HV).1 rfl))
                clear NOP STM HV
                go_wp2_with fail
                exact ⟨⟨m + 1, by omega, by go_num, BN, RN, QN, PN, S⟩, by simp [intOf]; omega⟩
    have hk' : k < lt.length := by have := unhide HTL; omega
    obtain ⟨b, off, e0, hrow⟩ := ((unhide HT).keep (unhide B)).at hlt
    have RR := hide hrow
    have zk := hrow.z
    have c0 := hrow.c0 k hk'
    have c1 := hrow.c1 k hk'
    have c2 := hrow.c2 k hk'
    have hnk := unhide HTN _ (List.getElem_mem hk')
    have o0 := hide hnk.o0
    obtain ⟨W, hW⟩ : ∃ W, W = wr.alloc (.cells #[.string lt[k].t.f0, .int .i64 lt[k].t.f1, .bool lt[k].t.f2] 38) := ⟨_, rfl⟩
    have bW : Below wr.heap.size wr W := by rw [hW]; exact bAl (Below.refl _ _) _
    have qW : RowIs W wr.heap.size #[.string lt[k].t.f0, .int .i64 lt[k].t.f1, .bool lt[k].t.f2] 38 := by rw [hW]; exact RowIs.new wr _ _
    have HW := hide hW
    have ne : Nonempty (Kept W) := ⟨⟨W, Below.refl _ _⟩⟩
    have qn := hide (fun (q : Kept W) => sGoodName_any lt[k].t.f0 (unhide o0) q.w)

    have x0 := kept_cell (W := W) (p := ⟨wr.heap.size, 0, none⟩) qW.lt (qW.at (o := 0) (v := .string lt[k].t.f0) rfl)
    have x1 := kept_cell (W := W) (p := ⟨wr.heap.size, 1, none⟩) qW.lt (qW.at (o := 1) (v := .int .i64 lt[k].t.f1) rfl)
    have x2 := kept_cell (W := W) (p := ⟨wr.heap.size, 2, none⟩) qW.lt (qW.at (o := 2) (v := .bool lt[k].t.f2) rfl)
    have rw_ := (unhide R).keep bW
    have y0 := kept_cell (W := W) (p := ⟨w.heap.size, 0, none⟩) rw_.lt (rw_.at (o := 0) (v := .slice h0.a h0.len h0.cap) rfl)
    have y1 := kept_cell (W := W) (p := ⟨w.heap.size, 1, none⟩) rw_.lt (rw_.at (o := 1) (v := .slice h1.a h1.len h1.cap) rfl)
    have RW := hide rw_
    have bk := hide (bTr (unhide B) bW)
    have NO : Hid (¬ ((goodName lt[k].t.f0 = true ∧ ¬ lt[k].t.f1 < 1 ∧ ¬ 4 < lt[k].t.f1) ∧ (0 < k → cmpT lt[k - 1].t.f0.data.toList lt[k].t.f0.data.toList < 0)) → ¬ G) := hide (fun h g => h (((unhide D).1 g).2.2.1 k hk' hk'))
    have STEP : Hid (((goodName lt[k].t.f0 = true ∧ ¬ lt[k].t.f1 < 1 ∧ ¬ 4 < lt[k].t.f1) ∧ (0 < k → cmpT lt[k - 1].t.f0.data.toList lt[k].t.f0.data.toList < 0)) → ∀ i, i < k + 1 → TyAt lt i) := hide (fun g i h1 => by
      rcases Nat.lt_or_ge i k with h2 | h2
      · exact unhide hA i h2
      · obtain rfl : i = k := by omega
        exact fun _ => g)
    clear hW rw_ hA hrow hnk
    by_cases hk0 : k = 0
    · have dj : decide (0 < k) = false := by simp; omega
      have HK0 := hide hk0
      clear qW RR bW hk0
      generalize cmpT lt[k - 1].t.f0.data.toList lt[k].t.f0.data.toList = cc at NO STEP
      generalize lt[k] = A at *
      generalize h0.a = aa at e0 y0 RW ⊢
      subst e0
      cases g0 : goodName A.t.f0
      case false =>
        have no := hide (unhide NO (fun h => by have := h.1.1; rw [g0] at this; cases this))
        rw [g0] at qn
        clear g0
        clear NO STEP
        go_wp2_with fail
        rw [← unhide HW]
        clear HW
        clear c0 c1 c2
        refine wp_region_kept (by kernel_rfl) (by kernel_rfl) ?_
        repeat (first
          | go_big_quiet_step (first | (go_at_call 11; with_reducible exact kept_same (unhide qn _)))
          | quiet_step (first | (go_at_call 11; with_reducible exact kept_same (unhide qn _))))
        refine wpQuiet_nil ?_
        rintro _ ⟨q, rfl⟩
        go_wp2_with fail
        go_ret
        exact ⟨retB (b := false) ⟨fun h => (by cases h), fun h => absurd h (unhide no)⟩, bTr (unhide bk) q.h⟩
      rw [g0] at qn
      by_cases g1 : A.t.f1 < 1
      case pos =>
        have d : decide (A.t.f1 < 1) = true := by ((try have e2 := unhide EL2); (try have e3 := unhide EL3); simp; omega)
        have no := hide (unhide NO (fun h => h.1.2.1 g1))
        clear g1
        clear NO STEP
        go_wp2_with fail
        rw [← unhide HW]
        clear HW
        clear c0 c1 c2
        refine wp_region_kept (by kernel_rfl) (by kernel_rfl) ?_
        repeat (first
          | go_big_quiet_step (first | (go_at_call 11; with_reducible exact kept_same (unhide qn _)))
          | quiet_step (first | (go_at_call 11; with_reducible exact kept_same (unhide qn _))))
        refine wpQuiet_nil ?_
        rintro _ ⟨q, rfl⟩
        go_wp2_with fail
        go_ret
        exact ⟨retB (b := false) ⟨fun h => (by cases h), fun h => absurd h (unhide no)⟩, bTr (unhide bk) q.h⟩
      have d1 : decide (A.t.f1 < 1) = false := by ((try have e2 := unhide EL2); (try have e3 := unhide EL3); simp; omega)
      by_cases g2 : 4 < A.t.f1
      case pos =>
        have d : decide (4 < A.t.f1) = true := by ((try have e2 := unhide EL2); (try have e3 := unhide EL3); simp; omega)
        have no := hide (unhide NO (fun h => h.1.2.2 g2))
        clear g2
        clear NO STEP
        go_wp2_with fail
        rw [← unhide HW]
        clear HW
        clear c0 c1 c2
        refine wp_region_kept (by kernel_rfl) (by kernel_rfl) ?_
        repeat (first
          | go_big_quiet_step (first | (go_at_call 11; with_reducible exact kept_same (unhide qn _)))
          | quiet_step (first | (go_at_call 11; with_reducible exact kept_same (unhide qn _))))
        refine wpQuiet_nil ?_
        rintro _ ⟨q, rfl⟩
        go_wp2_with fail
        go_ret
        exact ⟨retB (b := false) ⟨fun h => (by cases h), fun h => absurd h (unhide no)⟩, bTr (unhide bk) q.h⟩
      have d2 : decide (4 < A.t.f1) = false := by ((try have e2 := unhide EL2); (try have e3 := unhide EL3); simp; omega)
      have S := hide (unhide STEP ⟨⟨g0, g1, g2⟩, fun h => absurd h (by have := unhide HK0; omega)⟩)
      clear NO STEP g0 g1 g2
      go_wp2_with fail
      rw [← unhide HW]
      clear HW
      clear c0 c1 c2
      refine wp_region_kept (by kernel_rfl) (by kernel_rfl) ?_
      repeat (first
        | go_big_quiet_step (first | (go_at_call 11; with_reducible exact kept_same (unhide qn _)))
        | quiet_step (first | (go_at_call 11; with_reducible exact kept_same (unhide qn _))))
      refine wpQuiet_nil ?_
      rintro _ ⟨q, rfl⟩
      have BE := hide (bTr (unhide bk) q.h)
      have RE := hide ((unhide RW).keep q.h)
      go_wp2_with fail
      exact ⟨⟨k + 1, by omega, by go_num, BE, RE, S⟩, by simp [intOf]; omega⟩
    · have hj : k - 1 < lt.length := by omega
      have rj := (unhide RR).fr (Fr.below bW 0) (Nat.zero_le _)
      have zj : b < W.heap.size := Nat.lt_of_lt_of_le zk bW.size
      have t0 := kept_cell zj (rj.c0 (k - 1) hj)
      have qc := hide (fun (q : Kept W) => cmpText_any lt[k - 1].t.f0 lt[k].t.f0 q.w (unhide HTN _ (List.getElem_mem hj)).o0)
      have dj : decide (0 < k) = true := decide_eq_true (by omega)
      clear qW RR rj bW
      generalize cmpT lt[k - 1].t.f0.data.toList lt[k].t.f0.data.toList = cc at NO STEP qc
      generalize lt[k - 1] = Pv at *
      generalize lt[k] = A at *
      obtain ⟨j, hjj⟩ : ∃ j, k - 1 = j := ⟨_, rfl⟩
      rw [hjj] at t0
      have ej : IntKind.i64.wrap ((k : Int) - 1) = (j : Int) := by rw [IntKind.wrap_i64]; omega
      have i0 : (0 : Int) ≤ (j : Int) := by omega
      have i1 : (j : Int) < (h0.len : Int) := by omega
      have hkk : k = j + 1 := by omega
      have HKK := hide hkk
      clear hjj hkk
      generalize h0.a = aa at e0 y0 RW ⊢
      subst e0
      cases g0 : goodName A.t.f0
      case false =>
        have no := hide (unhide NO (fun h => by have := h.1.1; rw [g0] at this; cases this))
        rw [g0] at qn
        clear g0
        clear NO STEP
        go_wp2_with fail
        rw [← unhide HW]
        clear HW
        clear c0 c1 c2
        refine wp_region_kept (by kernel_rfl) (by kernel_rfl) ?_
        repeat (first
          | go_big_quiet_step (first | (go_at_call 11; with_reducible exact kept_same (unhide qn _)))
          | quiet_step (first | (go_at_call 11; with_reducible exact kept_same (unhide qn _))))
        refine wpQuiet_nil ?_
        rintro _ ⟨q, rfl⟩
        go_wp2_with fail
        go_ret
        exact ⟨retB (b := false) ⟨fun h => (by cases h), fun h => absurd h (unhide no)⟩, bTr (unhide bk) q.h⟩
      rw [g0] at qn
      by_cases g1 : A.t.f1 < 1
      case pos =>
        have d : decide (A.t.f1 < 1) = true := by ((try have e2 := unhide EL2); (try have e3 := unhide EL3); simp; omega)
        have no := hide (unhide NO (fun h => h.1.2.1 g1))
        clear g1
        clear NO STEP
        go_wp2_with fail
        rw [← unhide HW]
        clear HW
        clear c0 c1 c2
        refine wp_region_kept (by kernel_rfl) (by kernel_rfl) ?_
        repeat (first
          | go_big_quiet_step (first | (go_at_call 11; with_reducible exact kept_same (unhide qn _)))
          | quiet_step (first | (go_at_call 11; with_reducible exact kept_same (unhide qn _))))
        refine wpQuiet_nil ?_
        rintro _ ⟨q, rfl⟩
        go_wp2_with fail
        go_ret
        exact ⟨retB (b := false) ⟨fun h => (by cases h), fun h => absurd h (unhide no)⟩, bTr (unhide bk) q.h⟩
      have d1 : decide (A.t.f1 < 1) = false := by ((try have e2 := unhide EL2); (try have e3 := unhide EL3); simp; omega)
      by_cases g2 : 4 < A.t.f1
      case pos =>
        have d : decide (4 < A.t.f1) = true := by ((try have e2 := unhide EL2); (try have e3 := unhide EL3); simp; omega)
        have no := hide (unhide NO (fun h => h.1.2.2 g2))
        clear g2
        clear NO STEP
        go_wp2_with fail
        rw [← unhide HW]
        clear HW
        clear c0 c1 c2
        refine wp_region_kept (by kernel_rfl) (by kernel_rfl) ?_
        repeat (first
          | go_big_quiet_step (first | (go_at_call 11; with_reducible exact kept_same (unhide qn _)))
          | quiet_step (first | (go_at_call 11; with_reducible exact kept_same (unhide qn _))))
        refine wpQuiet_nil ?_
        rintro _ ⟨q, rfl⟩
        go_wp2_with fail
        go_ret
        exact ⟨retB (b := false) ⟨fun h => (by cases h), fun h => absurd h (unhide no)⟩, bTr (unhide bk) q.h⟩
      have d2 : decide (4 < A.t.f1) = false := by ((try have e2 := unhide EL2); (try have e3 := unhide EL3); simp; omega)
      by_cases hc : cc < 0
      case neg =>
        have dc : decide (0 ≤ cc) = true := by simp; omega
        have no := hide (unhide NO (fun h => hc (h.2 (by omega))))
        clear hc
        clear NO STEP
        go_wp2_with fail
        rw [← unhide HW]
        clear HW
        clear c0 c1 c2
        refine wp_region_kept (by kernel_rfl) (by kernel_rfl) ?_
        repeat (first
          | go_big_quiet_step (first | (go_at_call 11; with_reducible exact kept_same (unhide qn _)) | (go_at_call 12; with_reducible exact kept_call (unhide qc _)))
          | quiet_step (first | (go_at_call 11; with_reducible exact kept_same (unhide qn _)) | (go_at_call 12; with_reducible exact kept_call (unhide qc _))))
        refine wpQuiet_nil ?_
        rintro _ ⟨q, rfl⟩
        go_wp2_with fail
        go_ret
        exact ⟨retB (b := false) ⟨fun h => (by cases h), fun h => absurd h (unhide no)⟩, bTr (unhide bk) q.h⟩
      have dc : decide (0 ≤ cc) = false := by simp; omega
      have S := hide (unhide STEP ⟨⟨g0, g1, g2⟩, fun _ => hc⟩)
      clear NO STEP g0 g1 g2 hc
      go_wp2_with fail
      rw [← unhide HW]
      clear HW
      clear c0 c1 c2
      refine wp_region_kept (by kernel_rfl) (by kernel_rfl) ?_
      repeat (first
        | go_big_quiet_step (first | (go_at_call 11; with_reducible exact kept_same (unhide qn _)) | (go_at_call 12; with_reducible exact kept_call (unhide qc _)))
        | quiet_step (first | (go_at_call 11; with_reducible exact kept_same (unhide qn _)) | (go_at_call 12; with_reducible exact kept_call (unhide qc _))))
      refine wpQuiet_nil ?_
      rintro _ ⟨q, rfl⟩
      have BE := hide (bTr (unhide bk) q.h)
      have RE := hide ((unhide RW).keep q.h)
      go_wp2_with fail
      exact ⟨⟨k + 1, by omega, by go_num, BE, RE, S⟩, by simp [intOf]; omega⟩

end Go.Proofs.Ytobmdeoppbjjpaa.V
