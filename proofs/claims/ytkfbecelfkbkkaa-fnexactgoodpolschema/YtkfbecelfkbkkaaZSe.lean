/- spec.GoodPolSchema. -/
import Derived.Test.YtkfbecelfkbkkaaZSd
import Derived.Test.YtkfbecelfkbkkaaTId
import Derived.BigQuiet
namespace Go.Proofs.Ytkfbecelfkbkkaa.V
set_option linter.unusedSimpArgs false
set_option linter.unusedVariables false
open Go.RowKit

def actB : ByteArray := ⟨#[65, 99, 116, 105, 111, 110]⟩
def GThT (ns : List ByteArray) (t : ThingTypeT) : Prop := goodName t.f0 = true ∧ ¬ t.f0 = actB ∧ GTypes ns t.f1 ∧ GAttrs ns t.f2
def GAcT (ns : List ByteArray) (a : ActionTypeT) : Prop := idB a.f0 = true ∧ ¬ a.f1.length < 1 ∧ ¬ a.f2.length < 1 ∧ GTypes ns a.f1 ∧ GTypes ns a.f2 ∧ GAttrs ns a.f3
def GPs (x : PolSchemaT) : Prop := x.f0.length ≤ 20 ∧ x.f1.length ≤ 20 ∧ ((∀ t ∈ x.f0, GThT (x.f0.map (·.f0)) t) ∧ RisN' (x.f0.map (·.f0))) ∧ ((∀ a ∈ x.f1, GAcT (x.f0.map (·.f0)) a) ∧ RisN' (x.f1.map (·.f0)))
def TAt (ns : List ByteArray) (l : List ThingTypeE) (i : Nat) : Prop := ∀ h : i < l.length, GThT ns l[i].t ∧ (0 < i → cmpT l[i - 1].t.f0.data.toList l[i].t.f0.data.toList < 0)
def AAt (ns : List ByteArray) (l : List ActionTypeE) (i : Nat) : Prop := ∀ h : i < l.length, GAcT ns l[i].t ∧ (0 < i → cmpT l[i - 1].t.f0.data.toList l[i].t.f0.data.toList < 0)
theorem tat_iff (ns : List ByteArray) (l : List ThingTypeE) : ((∀ t ∈ l.map (·.t), GThT ns t) ∧ RisN' ((l.map (·.t)).map (·.f0))) ↔ ∀ i, i < l.length → TAt ns l i := by
  unfold RisN'
  constructor
  · rintro ⟨h2, h3⟩ i _ hi
    refine ⟨h2 _ (List.mem_map_of_mem (List.getElem_mem hi)), fun h0 => ?_⟩
    obtain ⟨j, rfl⟩ : ∃ j, i = j + 1 := ⟨i - 1, by omega⟩
    have := h3 j (by simpa using hi)
    simpa using this
  · intro h2
    refine ⟨fun a ha => ?_, fun i hi => ?_⟩
    · obtain ⟨e, he, rfl⟩ := List.mem_map.1 ha
      obtain ⟨i, hi, rfl⟩ := List.getElem_of_mem he
      exact (h2 i hi hi).1
    · have hi' : i + 1 < l.length := by simpa using hi
      have := (h2 (i + 1) hi' hi').2 (Nat.succ_pos _)
      simpa using this
theorem aat_iff (ns : List ByteArray) (l : List ActionTypeE) : ((∀ t ∈ l.map (·.t), GAcT ns t) ∧ RisN' ((l.map (·.t)).map (·.f0))) ↔ ∀ i, i < l.length → AAt ns l i := by
  unfold RisN'
  constructor
  · rintro ⟨h2, h3⟩ i _ hi
    refine ⟨h2 _ (List.mem_map_of_mem (List.getElem_mem hi)), fun h0 => ?_⟩
    obtain ⟨j, rfl⟩ : ∃ j, i = j + 1 := ⟨i - 1, by omega⟩
    have := h3 j (by simpa using hi)
    simpa using this
  · intro h2
    refine ⟨fun a ha => ?_, fun i hi => ?_⟩
    · obtain ⟨e, he, rfl⟩ := List.mem_map.1 ha
      obtain ⟨i, hi, rfl⟩ := List.getElem_of_mem he
      exact (h2 i hi hi).1
    · have hi' : i + 1 < l.length := by simpa using hi
      have := (h2 (i + 1) hi' hi').2 (Nat.succ_pos _)
      simpa using this
theorem gps_iff (lt : List ThingTypeE) (la : List ActionTypeE) : GPs ⟨lt.map (·.t), la.map (·.t)⟩ ↔ (lt.length ≤ 20 ∧ la.length ≤ 20 ∧ (∀ i, i < lt.length → TAt ((lt.map (·.t)).map (·.f0)) lt i) ∧ ∀ i, i < la.length → AAt ((lt.map (·.t)).map (·.f0)) la i) := by
  unfold GPs
  rw [tat_iff, aat_iff]
  simp
set_option maxRecDepth 40000 in
set_option maxHeartbeats 16000000 in
theorem sGoodPolSchema_n (e : PolSchemaE) (w : World) (hn : PolSchemaN e.t) (hm : PolSchemaM w 0 e) :
    Calls Try.prog 17 #[.agg #[.slice e.h0.a e.h0.len e.h0.cap, .slice e.h1.a e.h1.len e.h1.cap]] w fun r w' => RetB r (GPs e.t) ∧ Below w.heap.size w w' := by
  obtain ⟨⟨xt, xa⟩, h0, h1⟩ := e
  obtain ⟨st, sa, _⟩ := hm
  obtain ⟨ot, lt', oa, la', _⟩ := hn
  simp only at st sa ot lt' oa la' ⊢
  have ST := hide st
  have LT := hide lt'
  obtain ⟨lt, et, st⟩ := st
  obtain ⟨la, ea, sa⟩ := sa
  have D : Hid (GPs ⟨xt, xa⟩ ↔ (lt.length ≤ 20 ∧ la.length ≤ 20 ∧ (∀ i, i < lt.length → TAt (xt.map (·.f0)) lt i) ∧ ∀ i, i < la.length → AAt (xt.map (·.f0)) la i)) := hide (by
    rw [← et, ← ea]; exact gps_iff lt la)
  have HTN : Hid (∀ e ∈ lt, ThingTypeN e.t) := hide (fun e he => ot _ (by rw [← et]; exact List.mem_map_of_mem he))
  have HAN : Hid (∀ e ∈ la, ActionTypeN e.t) := hide (fun e he => oa _ (by rw [← ea]; exact List.mem_map_of_mem he))
  have HTL := hide st.1
  have HAL := hide sa.1
  have HT := hide st
  have HA := hide sa
  generalize GPs ⟨xt, xa⟩ = G at D ⊢
  obtain ⟨ns, hns⟩ : ∃ ns, ns = xt.map (·.f0) := ⟨_, rfl⟩
  rw [← hns] at D
  have NS : Hid (xt.map (·.f0) = ns) := hide hns.symm
  have B := hide (bAl (Below.refl w.heap.size w) (.cells #[.slice h0.a h0.len h0.cap, .slice h1.a h1.len h1.cap] 53))
  have R := hide (RowIs.new w #[.slice h0.a h0.len h0.cap, .slice h1.a h1.len h1.cap] 53)
  clear hns st sa et ea ot oa lt' la'
  by_cases b0 : (20 : Int) < h0.len
  · have no : Hid (¬ G) := hide (fun g => by have := ((unhide D).1 g).1; have := unhide HTL; omega)
    have d : decide ((20 : Int) < h0.len) = true := decide_eq_true b0
    clear D R
    go_enter Try.func17, Try.ntmps17
    go_wp2_with fail
    go_ret
    exact ⟨retB (b := false) ⟨fun h => (by cases h), fun h => absurd h (unhide no)⟩, unhide B⟩
  have d0 : decide ((20 : Int) < h0.len) = false := by simp; omega
  by_cases b1 : (20 : Int) < h1.len
  · have no : Hid (¬ G) := hide (fun g => by have := ((unhide D).1 g).2.1; have := unhide HAL; omega)
    have d : decide ((20 : Int) < h1.len) = true := decide_eq_true b1
    clear D R
    go_enter Try.func17, Try.ntmps17
    go_wp2_with fail
    go_ret
    exact ⟨retB (b := false) ⟨fun h => (by cases h), fun h => absurd h (unhide no)⟩, unhide B⟩
  have d1 : decide ((20 : Int) < h1.len) = false := by simp; omega
  have L20 : Hid (lt.length ≤ 20) := hide (by have := unhide HTL; omega)
  have A20 : Hid (la.length ≤ 20) := hide (by have := unhide HAL; omega)
  have m0 : h0.len ≤ 20 := by omega
  have m1 : h1.len ≤ 20 := by omega
  clear b0 b1
  go_enter Try.func17, Try.ntmps17
  go_wp2_with fail
  go_loopw [20] (fun i w' => ∃ k : Nat, k ≤ h0.len ∧ i = .int .i64 k ∧ Hid (Below w.heap.size w w') ∧ Hid (RowIs w' w.heap.size #[.slice h0.a h0.len h0.cap, .slice h1.a h1.len h1.cap] 53) ∧ Hid (∀ i, i < k → TAt ns lt i)) (fun i _ => h0.len - (intOf i).toNat)
  case atStart => exact ⟨0, Nat.zero_le _, rfl, B, R, hide (fun i h => absurd h (Nat.not_lt_zero _))⟩
  case round =>
    clear B R
    obtain ⟨k, hk, rfl, B, R, hA⟩ := hrel
    by_cases hlt : k < h0.len
    case neg =>
      have TALL : Hid (∀ i, i < lt.length → TAt ns lt i) := hide (fun i hi => unhide hA i (by have := unhide HTL; omega))
      have r1 := (unhide R).at (o := 1) (v := .slice h1.a h1.len h1.cap) rfl
      clear hA
      go_wp2_with fail
      clear r1 hk hlt
      go_loopw [69] (fun i w' => ∃ k : Nat, k ≤ h1.len ∧ i = .int .i64 k ∧ Hid (Below w.heap.size w w') ∧ Hid (RowIs w' w.heap.size #[.slice h0.a h0.len h0.cap, .slice h1.a h1.len h1.cap] 53) ∧ Hid (∀ i, i < k → AAt ns la i)) (fun i _ => h1.len - (intOf i).toNat)
      case atStart => exact ⟨0, Nat.zero_le _, rfl, B, R, hide (fun i h => absurd h (Nat.not_lt_zero _))⟩
      case round =>
        clear B R
        obtain ⟨k, hk, rfl, B, R, hA⟩ := hrel
        by_cases hlt : k < h1.len
        case neg =>
          have Y : Hid G := hide ((unhide D).2 ⟨unhide L20, unhide A20, unhide TALL, fun i hi => unhide hA i (by have := unhide HAL; omega)⟩)
          clear hA D
          go_wp2_with fail
          go_ret
          exact ⟨retB (b := true) ⟨fun _ => unhide Y, fun _ => rfl⟩, unhide B⟩
        have hk' : k < la.length := by have := unhide HAL; omega
        obtain ⟨b, off, e0, hrow⟩ := ((unhide HA).keep (unhide B)).at hlt
        have RR := hide hrow
        have zk := hrow.z
        have c0 := hrow.c0 k hk'
        have c1 := hrow.c1 k hk'
        have c2 := hrow.c2 k hk'
        have c3 := hrow.c3 k hk'
        have hnk := unhide HAN _ (List.getElem_mem hk')
        have MM := hide ((unhide HA).2.2 _ (List.getElem_mem hk'))
        have NO : Hid (¬ ((idB la[k].t.f0 = true ∧ ¬ la[k].t.f1.length < 1 ∧ ¬ la[k].t.f2.length < 1 ∧ GTypes ns la[k].t.f1 ∧ GTypes ns la[k].t.f2 ∧ GAttrs ns la[k].t.f3) ∧ (0 < k → cmpT la[k - 1].t.f0.data.toList la[k].t.f0.data.toList < 0)) → ¬ G) := hide (fun h g => h (((unhide D).1 g).2.2.2 k hk' hk'))
        have STEP : Hid (((idB la[k].t.f0 = true ∧ ¬ la[k].t.f1.length < 1 ∧ ¬ la[k].t.f2.length < 1 ∧ GTypes ns la[k].t.f1 ∧ GTypes ns la[k].t.f2 ∧ GAttrs ns la[k].t.f3) ∧ (0 < k → cmpT la[k - 1].t.f0.data.toList la[k].t.f0.data.toList < 0)) → ∀ i, i < k + 1 → AAt ns la i) := hide (fun g i h1 => by
          rcases Nat.lt_or_ge i k with h2 | h2
          · exact unhide hA i h2
          · obtain rfl : i = k := by omega
            exact fun _ => g)
        have o0 := hide hnk.o0
        obtain ⟨W, hW⟩ : ∃ W, W = wr.alloc (.cells #[.string la[k].t.f0, .slice la[k].h1.a la[k].h1.len la[k].h1.cap, .slice la[k].h2.a la[k].h2.len la[k].h2.cap, .slice la[k].h3.a la[k].h3.len la[k].h3.cap] 96) := ⟨_, rfl⟩
        have bW : Below wr.heap.size wr W := by rw [hW]; exact bAl (Below.refl _ _) _
        have qW : RowIs W wr.heap.size #[.string la[k].t.f0, .slice la[k].h1.a la[k].h1.len la[k].h1.cap, .slice la[k].h2.a la[k].h2.len la[k].h2.cap, .slice la[k].h3.a la[k].h3.len la[k].h3.cap] 96 := by rw [hW]; exact RowIs.new wr _ _
        have HW := hide hW
        have ne : Nonempty (Kept W) := ⟨⟨W, Below.refl _ _⟩⟩
        have qn := hide (fun (q : Kept W) => l7Id_any la[k].t.f0 (unhide o0) q.w)
        have qt := hide (fun (w' : World) (hb : Below w.heap.size w w') => l11GoodTypes_n h0 h1 _ la[k].h1 la[k].t.f1 w' (unhide LT) hnk.l1 hnk.o1 ((unhide ST).keep hb) ((unhide MM).m1.keep hb))
        have qu := hide (fun (w' : World) (hb : Below w.heap.size w w') => l11GoodTypes_n h0 h1 _ la[k].h2 la[k].t.f2 w' (unhide LT) hnk.l2 hnk.o2 ((unhide ST).keep hb) ((unhide MM).m2.keep hb))
        have qa := hide (fun (w' : World) (hb : Below w.heap.size w w') => l11GoodAttrs_n h0 h1 _ la[k].h3 la[k].t.f3 w' (unhide LT) hnk.l3 hnk.o3 ((unhide ST).keep hb) ((unhide MM).m3.keep hb))
        have EL1 := hide ((unhide MM).m1.1)
        have EL2 := hide ((unhide MM).m2.1)
        rw [unhide NS] at qt qu qa
        have x0 := kept_cell (W := W) (p := ⟨wr.heap.size, 0, none⟩) qW.lt (qW.at (o := 0) (v := .string la[k].t.f0) rfl)
        have x1 := kept_cell (W := W) (p := ⟨wr.heap.size, 1, none⟩) qW.lt (qW.at (o := 1) (v := .slice la[k].h1.a la[k].h1.len la[k].h1.cap) rfl)
        have x2 := kept_cell (W := W) (p := ⟨wr.heap.size, 2, none⟩) qW.lt (qW.at (o := 2) (v := .slice la[k].h2.a la[k].h2.len la[k].h2.cap) rfl)
        have x3 := kept_cell (W := W) (p := ⟨wr.heap.size, 3, none⟩) qW.lt (qW.at (o := 3) (v := .slice la[k].h3.a la[k].h3.len la[k].h3.cap) rfl)
        have rw_ := (unhide R).keep bW
        have y0 := kept_cell (W := W) (p := ⟨w.heap.size, 0, none⟩) rw_.lt (rw_.at (o := 0) (v := .slice h0.a h0.len h0.cap) rfl)
        have y1 := kept_cell (W := W) (p := ⟨w.heap.size, 1, none⟩) rw_.lt (rw_.at (o := 1) (v := .slice h1.a h1.len h1.cap) rfl)
        have RW := hide rw_
        have bk := hide (bTr (unhide B) bW)
        clear hW rw_ hA hrow hnk MM
        generalize GTypes ns la[k].t.f1 = PT at NO STEP qt
        generalize GTypes ns la[k].t.f2 = PU at NO STEP qu
        generalize GAttrs ns la[k].t.f3 = PA at NO STEP qa
        by_cases hk0 : k = 0
        · subst hk0
          simp only [Nat.zero_mul, Nat.add_zero] at c0 c1 c2 c3
          clear qW RR
          generalize la[0] = A at *
          generalize h1.a = aa at e0 y0 y1 RW qt qu qa ⊢
          subst e0
          cases g0 : idB A.t.f0
          · have d := g0
            have no := hide (unhide NO (fun h => by have := h.1.1; rw [g0] at this; cases this))
            rw [g0] at qn
            clear g0 d NO STEP
            go_wp2_with fail
            rw [← unhide HW]
            clear HW c0 c1 c2 c3
            refine wp_region_kept (by kernel_rfl) (by kernel_rfl) ?_
            repeat (first
              | go_big_quiet_step (first | (go_at_call 50; with_reducible exact kept_call (unhide qn _)))
              | quiet_step (first | (go_at_call 50; with_reducible exact kept_call (unhide qn _))))
            refine wpQuiet_nil ?_
            rintro _ ⟨q, rfl⟩
            go_wp2_with fail
            go_ret
            exact ⟨retB (b := false) ⟨fun h => (by cases h), fun h => absurd h (unhide no)⟩, bTr (unhide bk) q.h⟩
          rw [g0] at qn
          by_cases g1 : A.t.f1.length < 1
          case pos =>
            have d : decide ((A.h1.len : Int) < 1) = true := decide_eq_true (by have e1 := unhide EL1; have e2 := unhide EL2; omega)
            have no := hide (unhide NO (fun h => h.1.2.1 g1))
            clear g1 NO STEP
            go_wp2_with fail
            rw [← unhide HW]
            clear HW c0 c1 c2 c3
            refine wp_region_kept (by kernel_rfl) (by kernel_rfl) ?_
            repeat (first
              | go_big_quiet_step (first | (go_at_call 50; with_reducible exact kept_call (unhide qn _)))
              | quiet_step (first | (go_at_call 50; with_reducible exact kept_call (unhide qn _))))
            refine wpQuiet_nil ?_
            rintro _ ⟨q, rfl⟩
            go_wp2_with fail
            go_ret
            exact ⟨retB (b := false) ⟨fun h => (by cases h), fun h => absurd h (unhide no)⟩, bTr (unhide bk) q.h⟩
          have d1 : decide ((A.h1.len : Int) < 1) = false := by have e1 := unhide EL1; have e2 := unhide EL2; simp; omega
          by_cases g2 : A.t.f2.length < 1
          case pos =>
            have d : decide ((A.h2.len : Int) < 1) = true := decide_eq_true (by have e1 := unhide EL1; have e2 := unhide EL2; omega)
            have no := hide (unhide NO (fun h => h.1.2.2.1 g2))
            clear g2 NO STEP
            go_wp2_with fail
            rw [← unhide HW]
            clear HW c0 c1 c2 c3
            refine wp_region_kept (by kernel_rfl) (by kernel_rfl) ?_
            repeat (first
              | go_big_quiet_step (first | (go_at_call 50; with_reducible exact kept_call (unhide qn _)))
              | quiet_step (first | (go_at_call 50; with_reducible exact kept_call (unhide qn _))))
            refine wpQuiet_nil ?_
            rintro _ ⟨q, rfl⟩
            go_wp2_with fail
            go_ret
            exact ⟨retB (b := false) ⟨fun h => (by cases h), fun h => absurd h (unhide no)⟩, bTr (unhide bk) q.h⟩
          have d2 : decide ((A.h2.len : Int) < 1) = false := by have e1 := unhide EL1; have e2 := unhide EL2; simp; omega
          by_cases g3 : PT
          case neg =>
            have p3 := hide (fun (q : Kept W) => callsF (unhide qt q.w (bTr (unhide bk) q.h)) g3)
            have no := hide (unhide NO (fun h => g3 (h.1.2.2.2.1)))
            clear g3 NO STEP
            go_wp2_with fail
            rw [← unhide HW]
            clear HW c0 c1 c2 c3
            refine wp_region_kept (by kernel_rfl) (by kernel_rfl) ?_
            repeat (first
              | go_big_quiet_step (first | (go_at_call 50; with_reducible exact kept_call (unhide qn _)) | (go_at_call 48; with_reducible exact kept_call (unhide p3 _)))
              | quiet_step (first | (go_at_call 50; with_reducible exact kept_call (unhide qn _)) | (go_at_call 48; with_reducible exact kept_call (unhide p3 _))))
            refine wpQuiet_nil ?_
            rintro _ ⟨q, rfl⟩
            go_wp2_with fail
            go_ret
            exact ⟨retB (b := false) ⟨fun h => (by cases h), fun h => absurd h (unhide no)⟩, bTr (unhide bk) q.h⟩
          have p3 := hide (fun (q : Kept W) => callsT (unhide qt q.w (bTr (unhide bk) q.h)) g3)
          by_cases g4 : PU
          case neg =>
            have p4 := hide (fun (q : Kept W) => callsF (unhide qu q.w (bTr (unhide bk) q.h)) g4)
            have no := hide (unhide NO (fun h => g4 (h.1.2.2.2.2.1)))
            clear g4 NO STEP
            go_wp2_with fail
            rw [← unhide HW]
            clear HW c0 c1 c2 c3
            refine wp_region_kept (by kernel_rfl) (by kernel_rfl) ?_
            repeat (first
              | go_big_quiet_step (first | (go_at_call 50; with_reducible exact kept_call (unhide qn _)) | (go_at_call 48; with_reducible exact kept_call (unhide p3 _)) | (go_at_call 48; with_reducible exact kept_call (unhide p4 _)))
              | quiet_step (first | (go_at_call 50; with_reducible exact kept_call (unhide qn _)) | (go_at_call 48; with_reducible exact kept_call (unhide p3 _)) | (go_at_call 48; with_reducible exact kept_call (unhide p4 _))))
            refine wpQuiet_nil ?_
            rintro _ ⟨q, rfl⟩
            go_wp2_with fail
            go_ret
            exact ⟨retB (b := false) ⟨fun h => (by cases h), fun h => absurd h (unhide no)⟩, bTr (unhide bk) q.h⟩
          have p4 := hide (fun (q : Kept W) => callsT (unhide qu q.w (bTr (unhide bk) q.h)) g4)
          by_cases g5 : PA
          case neg =>
            have p5 := hide (fun (q : Kept W) => callsF (unhide qa q.w (bTr (unhide bk) q.h)) g5)
            have no := hide (unhide NO (fun h => g5 (h.1.2.2.2.2.2)))
            clear g5 NO STEP
            go_wp2_with fail
            rw [← unhide HW]
            clear HW c0 c1 c2 c3
            refine wp_region_kept (by kernel_rfl) (by kernel_rfl) ?_
            repeat (first
              | go_big_quiet_step (first | (go_at_call 50; with_reducible exact kept_call (unhide qn _)) | (go_at_call 48; with_reducible exact kept_call (unhide p3 _)) | (go_at_call 48; with_reducible exact kept_call (unhide p4 _)) | (go_at_call 49; with_reducible exact kept_call (unhide p5 _)))
              | quiet_step (first | (go_at_call 50; with_reducible exact kept_call (unhide qn _)) | (go_at_call 48; with_reducible exact kept_call (unhide p3 _)) | (go_at_call 48; with_reducible exact kept_call (unhide p4 _)) | (go_at_call 49; with_reducible exact kept_call (unhide p5 _))))
            refine wpQuiet_nil ?_
            rintro _ ⟨q, rfl⟩
            go_wp2_with fail
            go_ret
            exact ⟨retB (b := false) ⟨fun h => (by cases h), fun h => absurd h (unhide no)⟩, bTr (unhide bk) q.h⟩
          have p5 := hide (fun (q : Kept W) => callsT (unhide qa q.w (bTr (unhide bk) q.h)) g5)
          have S := hide (unhide STEP ⟨⟨g0, g1, g2, g3, g4, g5⟩, fun h => absurd h (Nat.lt_irrefl _)⟩)
          clear NO STEP g0 g1 g2 g3 g4 g5
          go_wp2_with fail
          rw [← unhide HW]
          clear HW c0 c1 c2 c3
          refine wp_region_kept (by kernel_rfl) (by kernel_rfl) ?_
          repeat (first
            | go_big_quiet_step (first | (go_at_call 50; with_reducible exact kept_call (unhide qn _)) | (go_at_call 48; with_reducible exact kept_call (unhide p3 _)) | (go_at_call 48; with_reducible exact kept_call (unhide p4 _)) | (go_at_call 49; with_reducible exact kept_call (unhide p5 _)))
            | quiet_step (first | (go_at_call 50; with_reducible exact kept_call (unhide qn _)) | (go_at_call 48; with_reducible exact kept_call (unhide p3 _)) | (go_at_call 48; with_reducible exact kept_call (unhide p4 _)) | (go_at_call 49; with_reducible exact kept_call (unhide p5 _))))
          refine wpQuiet_nil ?_
          rintro _ ⟨q, rfl⟩
          have BE := hide (bTr (unhide bk) q.h)
          have RE := hide ((unhide RW).keep q.h)
          go_wp2_with fail
          exact ⟨⟨0 + 1, by omega, by go_num, BE, RE, S⟩, by simp [intOf]; omega⟩
        · obtain ⟨j, rfl⟩ : ∃ j, k = j + 1 := ⟨k - 1, by omega⟩
          have hj : j < la.length := by omega
          have rj := (unhide RR).fr (Fr.below bW 0) (Nat.zero_le _)
          have zj : b < W.heap.size := Nat.lt_of_lt_of_le zk bW.size
          have t0 := kept_cell zj (rj.c0 j hj)
          have qc := hide (fun (q : Kept W) => cmpText_any la[j].t.f0 la[j + 1].t.f0 q.w (unhide HAN _ (List.getElem_mem hj)).o0)
          have dj : decide (0 < (j : Int) + 1) = true := decide_eq_true (by omega)
          have ej : IntKind.i64.wrap ((j : Int) + 1 - 1) = (j : Int) := by rw [IntKind.wrap_i64]; omega
          have i0 : (0 : Int) ≤ (j : Int) := by omega
          have i1 : (j : Int) < (h1.len : Int) := by omega
          simp only [Nat.add_sub_cancel] at NO STEP
          clear rj qW RR
          generalize cmpT la[j].t.f0.data.toList la[j + 1].t.f0.data.toList = cc at *
          generalize la[j + 1] = A at *
          generalize la[j] = Pv at *
          generalize h1.a = aa at e0 y0 y1 RW qt qu qa ⊢
          subst e0
          cases g0 : idB A.t.f0
          · have d := g0
            have no := hide (unhide NO (fun h => by have := h.1.1; rw [g0] at this; cases this))
            rw [g0] at qn
            clear g0 d NO STEP
            go_wp2_with fail
            rw [← unhide HW]
            clear HW c0 c1 c2 c3
            refine wp_region_kept (by kernel_rfl) (by kernel_rfl) ?_
            repeat (first
              | go_big_quiet_step (first | (go_at_call 50; with_reducible exact kept_call (unhide qn _)))
              | quiet_step (first | (go_at_call 50; with_reducible exact kept_call (unhide qn _))))
            refine wpQuiet_nil ?_
            rintro _ ⟨q, rfl⟩
            go_wp2_with fail
            go_ret
            exact ⟨retB (b := false) ⟨fun h => (by cases h), fun h => absurd h (unhide no)⟩, bTr (unhide bk) q.h⟩
          rw [g0] at qn
          by_cases hc : cc < 0
          case neg =>
            have dc : decide (0 ≤ cc) = true := by simp; omega
            have no := hide (unhide NO (fun h => hc (h.2 (Nat.succ_pos _))))
            clear hc NO STEP
            go_wp2_with fail
            rw [← unhide HW]
            clear HW c0 c1 c2 c3
            refine wp_region_kept (by kernel_rfl) (by kernel_rfl) ?_
            repeat (first
              | go_big_quiet_step (first | (go_at_call 50; with_reducible exact kept_call (unhide qn _)) | (go_at_call 47; with_reducible exact kept_call (unhide qc _)))
              | quiet_step (first | (go_at_call 50; with_reducible exact kept_call (unhide qn _)) | (go_at_call 47; with_reducible exact kept_call (unhide qc _))))
            refine wpQuiet_nil ?_
            rintro _ ⟨q, rfl⟩
            go_wp2_with fail
            go_ret
            exact ⟨retB (b := false) ⟨fun h => (by cases h), fun h => absurd h (unhide no)⟩, bTr (unhide bk) q.h⟩
          have dc : decide (0 ≤ cc) = false := by simp; omega
          by_cases g2 : A.t.f1.length < 1
          case pos =>
            have d : decide ((A.h1.len : Int) < 1) = true := decide_eq_true (by have e1 := unhide EL1; have e2 := unhide EL2; omega)
            have no := hide (unhide NO (fun h => h.1.2.1 g2))
            clear g2 NO STEP
            go_wp2_with fail
            rw [← unhide HW]
            clear HW c0 c1 c2 c3
            refine wp_region_kept (by kernel_rfl) (by kernel_rfl) ?_
            repeat (first
              | go_big_quiet_step (first | (go_at_call 50; with_reducible exact kept_call (unhide qn _)) | (go_at_call 47; with_reducible exact kept_call (unhide qc _)))
              | quiet_step (first | (go_at_call 50; with_reducible exact kept_call (unhide qn _)) | (go_at_call 47; with_reducible exact kept_call (unhide qc _))))
            refine wpQuiet_nil ?_
            rintro _ ⟨q, rfl⟩
            go_wp2_with fail
            go_ret
            exact ⟨retB (b := false) ⟨fun h => (by cases h), fun h => absurd h (unhide no)⟩, bTr (unhide bk) q.h⟩
          have d2 : decide ((A.h1.len : Int) < 1) = false := by have e1 := unhide EL1; have e2 := unhide EL2; simp; omega
          by_cases g3 : A.t.f2.length < 1
          case pos =>
            have d : decide ((A.h2.len : Int) < 1) = true := decide_eq_true (by have e1 := unhide EL1; have e2 := unhide EL2; omega)
            have no := hide (unhide NO (fun h => h.1.2.2.1 g3))
            clear g3 NO STEP
            go_wp2_with fail
            rw [← unhide HW]
            clear HW c0 c1 c2 c3
            refine wp_region_kept (by kernel_rfl) (by kernel_rfl) ?_
            repeat (first
              | go_big_quiet_step (first | (go_at_call 50; with_reducible exact kept_call (unhide qn _)) | (go_at_call 47; with_reducible exact kept_call (unhide qc _)))
              | quiet_step (first | (go_at_call 50; with_reducible exact kept_call (unhide qn _)) | (go_at_call 47; with_reducible exact kept_call (unhide qc _))))
            refine wpQuiet_nil ?_
            rintro _ ⟨q, rfl⟩
            go_wp2_with fail
            go_ret
            exact ⟨retB (b := false) ⟨fun h => (by cases h), fun h => absurd h (unhide no)⟩, bTr (unhide bk) q.h⟩
          have d3 : decide ((A.h2.len : Int) < 1) = false := by have e1 := unhide EL1; have e2 := unhide EL2; simp; omega
          by_cases g4 : PT
          case neg =>
            have p4 := hide (fun (q : Kept W) => callsF (unhide qt q.w (bTr (unhide bk) q.h)) g4)
            have no := hide (unhide NO (fun h => g4 (h.1.2.2.2.1)))
            clear g4 NO STEP
            go_wp2_with fail
            rw [← unhide HW]
            clear HW c0 c1 c2 c3
            refine wp_region_kept (by kernel_rfl) (by kernel_rfl) ?_
            repeat (first
              | go_big_quiet_step (first | (go_at_call 50; with_reducible exact kept_call (unhide qn _)) | (go_at_call 47; with_reducible exact kept_call (unhide qc _)) | (go_at_call 48; with_reducible exact kept_call (unhide p4 _)))
              | quiet_step (first | (go_at_call 50; with_reducible exact kept_call (unhide qn _)) | (go_at_call 47; with_reducible exact kept_call (unhide qc _)) | (go_at_call 48; with_reducible exact kept_call (unhide p4 _))))
            refine wpQuiet_nil ?_
            rintro _ ⟨q, rfl⟩
            go_wp2_with fail
            go_ret
            exact ⟨retB (b := false) ⟨fun h => (by cases h), fun h => absurd h (unhide no)⟩, bTr (unhide bk) q.h⟩
          have p4 := hide (fun (q : Kept W) => callsT (unhide qt q.w (bTr (unhide bk) q.h)) g4)
          by_cases g5 : PU
          case neg =>
            have p5 := hide (fun (q : Kept W) => callsF (unhide qu q.w (bTr (unhide bk) q.h)) g5)
            have no := hide (unhide NO (fun h => g5 (h.1.2.2.2.2.1)))
            clear g5 NO STEP
            go_wp2_with fail
            rw [← unhide HW]
            clear HW c0 c1 c2 c3
            refine wp_region_kept (by kernel_rfl) (by kernel_rfl) ?_
            repeat (first
              | go_big_quiet_step (first | (go_at_call 50; with_reducible exact kept_call (unhide qn _)) | (go_at_call 47; with_reducible exact kept_call (unhide qc _)) | (go_at_call 48; with_reducible exact kept_call (unhide p4 _)) | (go_at_call 48; with_reducible exact kept_call (unhide p5 _)))
              | quiet_step (first | (go_at_call 50; with_reducible exact kept_call (unhide qn _)) | (go_at_call 47; with_reducible exact kept_call (unhide qc _)) | (go_at_call 48; with_reducible exact kept_call (unhide p4 _)) | (go_at_call 48; with_reducible exact kept_call (unhide p5 _))))
            refine wpQuiet_nil ?_
            rintro _ ⟨q, rfl⟩
            go_wp2_with fail
            go_ret
            exact ⟨retB (b := false) ⟨fun h => (by cases h), fun h => absurd h (unhide no)⟩, bTr (unhide bk) q.h⟩
          have p5 := hide (fun (q : Kept W) => callsT (unhide qu q.w (bTr (unhide bk) q.h)) g5)
          by_cases g6 : PA
          case neg =>
            have p6 := hide (fun (q : Kept W) => callsF (unhide qa q.w (bTr (unhide bk) q.h)) g6)
            have no := hide (unhide NO (fun h => g6 (h.1.2.2.2.2.2)))
            clear g6 NO STEP
            go_wp2_with fail
            rw [← unhide HW]
            clear HW c0 c1 c2 c3
            refine wp_region_kept (by kernel_rfl) (by kernel_rfl) ?_
            repeat (first
              | go_big_quiet_step (first | (go_at_call 50; with_reducible exact kept_call (unhide qn _)) | (go_at_call 47; with_reducible exact kept_call (unhide qc _)) | (go_at_call 48; with_reducible exact kept_call (unhide p4 _)) | (go_at_call 48; with_reducible exact kept_call (unhide p5 _)) | (go_at_call 49; with_reducible exact kept_call (unhide p6 _)))
              | quiet_step (first | (go_at_call 50; with_reducible exact kept_call (unhide qn _)) | (go_at_call 47; with_reducible exact kept_call (unhide qc _)) | (go_at_call 48; with_reducible exact kept_call (unhide p4 _)) | (go_at_call 48; with_reducible exact kept_call (unhide p5 _)) | (go_at_call 49; with_reducible exact kept_call (unhide p6 _))))
            refine wpQuiet_nil ?_
            rintro _ ⟨q, rfl⟩
            go_wp2_with fail
            go_ret
            exact ⟨retB (b := false) ⟨fun h => (by cases h), fun h => absurd h (unhide no)⟩, bTr (unhide bk) q.h⟩
          have p6 := hide (fun (q : Kept W) => callsT (unhide qa q.w (bTr (unhide bk) q.h)) g6)
          have S := hide (unhide STEP ⟨⟨g0, g2, g3, g4, g5, g6⟩, fun _ => hc⟩)
          clear NO STEP g0 g2 g3 g4 g5 g6 hc
          go_wp2_with fail
          rw [← unhide HW]
          clear HW c0 c1 c2 c3
          refine wp_region_kept (by kernel_rfl) (by kernel_rfl) ?_
          repeat (first
            | go_big_quiet_step (first | (go_at_call 50; with_reducible exact kept_call (unhide qn _)) | (go_at_call 47; with_reducible exact kept_call (unhide qc _)) | (go_at_call 48; with_reducible exact kept_call (unhide p4 _)) | (go_at_call 48; with_reducible exact kept_call (unhide p5 _)) | (go_at_call 49; with_reducible exact kept_call (unhide p6 _)))
            | quiet_step (first | (go_at_call 50; with_reducible exact kept_call (unhide qn _)) | (go_at_call 47; with_reducible exact kept_call (unhide qc _)) | (go_at_call 48; with_reducible exact kept_call (unhide p4 _)) | (go_at_call 48; with_reducible exact kept_call (unhide p5 _)) | (go_at_call 49; with_reducible exact kept_call (unhide p6 _))))
          refine wpQuiet_nil ?_
          rintro _ ⟨q, rfl⟩
          have BE := hide (bTr (unhide bk) q.h)
          have RE := hide ((unhide RW).keep q.h)
          go_wp2_with fail
          exact ⟨⟨(j + 1) + 1, by omega, by go_num, BE, RE, S⟩, by simp [intOf]; omega⟩
    have hk' : k < lt.length := by have := unhide HTL; omega
    obtain ⟨b, off, e0, hrow⟩ := ((unhide HT).keep (unhide B)).at hlt
    have RR := hide hrow
    have zk := hrow.z
    have c0 := hrow.c0 k hk'
    have c1 := hrow.c1 k hk'
    have c2 := hrow.c2 k hk'
    have hnk := unhide HTN _ (List.getElem_mem hk')
    have MM := hide ((unhide HT).2.2 _ (List.getElem_mem hk'))
    have NO : Hid (¬ ((goodName lt[k].t.f0 = true ∧ ¬ lt[k].t.f0 = actB ∧ GTypes ns lt[k].t.f1 ∧ GAttrs ns lt[k].t.f2) ∧ (0 < k → cmpT lt[k - 1].t.f0.data.toList lt[k].t.f0.data.toList < 0)) → ¬ G) := hide (fun h g => h (((unhide D).1 g).2.2.1 k hk' hk'))
    have STEP : Hid (((goodName lt[k].t.f0 = true ∧ ¬ lt[k].t.f0 = actB ∧ GTypes ns lt[k].t.f1 ∧ GAttrs ns lt[k].t.f2) ∧ (0 < k → cmpT lt[k - 1].t.f0.data.toList lt[k].t.f0.data.toList < 0)) → ∀ i, i < k + 1 → TAt ns lt i) := hide (fun g i h1 => by
      rcases Nat.lt_or_ge i k with h2 | h2
      · exact unhide hA i h2
      · obtain rfl : i = k := by omega
        exact fun _ => g)
    have o0 := hide hnk.o0
    obtain ⟨W, hW⟩ : ∃ W, W = wr.alloc (.cells #[.string lt[k].t.f0, .slice lt[k].h1.a lt[k].h1.len lt[k].h1.cap, .slice lt[k].h2.a lt[k].h2.len lt[k].h2.cap] 90) := ⟨_, rfl⟩
    have bW : Below wr.heap.size wr W := by rw [hW]; exact bAl (Below.refl _ _) _
    have qW : RowIs W wr.heap.size #[.string lt[k].t.f0, .slice lt[k].h1.a lt[k].h1.len lt[k].h1.cap, .slice lt[k].h2.a lt[k].h2.len lt[k].h2.cap] 90 := by rw [hW]; exact RowIs.new wr _ _
    have HW := hide hW
    have ne : Nonempty (Kept W) := ⟨⟨W, Below.refl _ _⟩⟩
    have qn := hide (fun (q : Kept W) => sGoodName_any lt[k].t.f0 (unhide o0) q.w)
    have qt := hide (fun (w' : World) (hb : Below w.heap.size w w') => l11GoodTypes_n h0 h1 _ lt[k].h1 lt[k].t.f1 w' (unhide LT) hnk.l1 hnk.o1 ((unhide ST).keep hb) ((unhide MM).m1.keep hb))
    have qa := hide (fun (w' : World) (hb : Below w.heap.size w w') => l11GoodAttrs_n h0 h1 _ lt[k].h2 lt[k].t.f2 w' (unhide LT) hnk.l2 hnk.o2 ((unhide ST).keep hb) ((unhide MM).m2.keep hb))
    rw [unhide NS] at qt qa
    have x0 := kept_cell (W := W) (p := ⟨wr.heap.size, 0, none⟩) qW.lt (qW.at (o := 0) (v := .string lt[k].t.f0) rfl)
    have x1 := kept_cell (W := W) (p := ⟨wr.heap.size, 1, none⟩) qW.lt (qW.at (o := 1) (v := .slice lt[k].h1.a lt[k].h1.len lt[k].h1.cap) rfl)
    have x2 := kept_cell (W := W) (p := ⟨wr.heap.size, 2, none⟩) qW.lt (qW.at (o := 2) (v := .slice lt[k].h2.a lt[k].h2.len lt[k].h2.cap) rfl)
    have rw_ := (unhide R).keep bW
    have y0 := kept_cell (W := W) (p := ⟨w.heap.size, 0, none⟩) rw_.lt (rw_.at (o := 0) (v := .slice h0.a h0.len h0.cap) rfl)
    have y1 := kept_cell (W := W) (p := ⟨w.heap.size, 1, none⟩) rw_.lt (rw_.at (o := 1) (v := .slice h1.a h1.len h1.cap) rfl)
    have RW := hide rw_
    have bk := hide (bTr (unhide B) bW)
    clear hW rw_ hA hrow hnk MM
    generalize GTypes ns lt[k].t.f1 = PT at NO STEP qt
    generalize GAttrs ns lt[k].t.f2 = PA at NO STEP qa
    by_cases hk0 : k = 0
    · subst hk0
      simp only [Nat.zero_mul, Nat.add_zero] at c0 c1 c2
      clear qW RR
      generalize lt[0] = A at *
      generalize h0.a = aa at e0 y0 y1 RW qt qa ⊢
      subst e0
      cases g0 : goodName A.t.f0
      · have d := g0
        have no := hide (unhide NO (fun h => by have := h.1.1; rw [g0] at this; cases this))
        rw [g0] at qn
        clear g0 d NO STEP
        go_wp2_with fail
        rw [← unhide HW]
        clear HW c0 c1 c2
        refine wp_region_kept (by kernel_rfl) (by kernel_rfl) ?_
        repeat (first
          | go_big_quiet_step (first | (go_at_call 46; with_reducible exact kept_same (unhide qn _)))
          | quiet_step (first | (go_at_call 46; with_reducible exact kept_same (unhide qn _))))
        refine wpQuiet_nil ?_
        rintro _ ⟨q, rfl⟩
        go_wp2_with fail
        go_ret
        exact ⟨retB (b := false) ⟨fun h => (by cases h), fun h => absurd h (unhide no)⟩, bTr (unhide bk) q.h⟩
      rw [g0] at qn
      by_cases g1 : A.t.f0 = actB
      case pos =>
        have d : (ByteArray.toList A.t.f0 == [65, 99, 116, 105, 111, 110]) = true := by rw [g1]; unfold actB; rw [ByteArray.toList_eq]; rfl
        have no := hide (unhide NO (fun h => h.1.2.1 g1))
        clear g1 NO STEP
        go_wp2_with fail
        rw [← unhide HW]
        clear HW c0 c1 c2
        refine wp_region_kept (by kernel_rfl) (by kernel_rfl) ?_
        repeat (first
          | go_big_quiet_step (first | (go_at_call 46; with_reducible exact kept_same (unhide qn _)))
          | quiet_step (first | (go_at_call 46; with_reducible exact kept_same (unhide qn _))))
        refine wpQuiet_nil ?_
        rintro _ ⟨q, rfl⟩
        go_wp2_with fail
        go_ret
        exact ⟨retB (b := false) ⟨fun h => (by cases h), fun h => absurd h (unhide no)⟩, bTr (unhide bk) q.h⟩
      have d1 : (ByteArray.toList A.t.f0 == [65, 99, 116, 105, 111, 110]) = false := by have h := str_neY g1; unfold actB at h; rw [ByteArray.toList_eq ⟨#[65, 99, 116, 105, 111, 110]⟩] at h; exact h
      by_cases g2 : PT
      case neg =>
        have p2 := hide (fun (q : Kept W) => callsF (unhide qt q.w (bTr (unhide bk) q.h)) g2)
        have no := hide (unhide NO (fun h => g2 (h.1.2.2.1)))
        clear g2 NO STEP
        go_wp2_with fail
        rw [← unhide HW]
        clear HW c0 c1 c2
        refine wp_region_kept (by kernel_rfl) (by kernel_rfl) ?_
        repeat (first
          | go_big_quiet_step (first | (go_at_call 46; with_reducible exact kept_same (unhide qn _)) | (go_at_call 48; with_reducible exact kept_call (unhide p2 _)))
          | quiet_step (first | (go_at_call 46; with_reducible exact kept_same (unhide qn _)) | (go_at_call 48; with_reducible exact kept_call (unhide p2 _))))
        refine wpQuiet_nil ?_
        rintro _ ⟨q, rfl⟩
        go_wp2_with fail
        go_ret
        exact ⟨retB (b := false) ⟨fun h => (by cases h), fun h => absurd h (unhide no)⟩, bTr (unhide bk) q.h⟩
      have p2 := hide (fun (q : Kept W) => callsT (unhide qt q.w (bTr (unhide bk) q.h)) g2)
      by_cases g3 : PA
      case neg =>
        have p3 := hide (fun (q : Kept W) => callsF (unhide qa q.w (bTr (unhide bk) q.h)) g3)
        have no := hide (unhide NO (fun h => g3 (h.1.2.2.2)))
        clear g3 NO STEP
        go_wp2_with fail
        rw [← unhide HW]
        clear HW c0 c1 c2
        refine wp_region_kept (by kernel_rfl) (by kernel_rfl) ?_
        repeat (first
          | go_big_quiet_step (first | (go_at_call 46; with_reducible exact kept_same (unhide qn _)) | (go_at_call 48; with_reducible exact kept_call (unhide p2 _)) | (go_at_call 49; with_reducible exact kept_call (unhide p3 _)))
          | quiet_step (first | (go_at_call 46; with_reducible exact kept_same (unhide qn _)) | (go_at_call 48; with_reducible exact kept_call (unhide p2 _)) | (go_at_call 49; with_reducible exact kept_call (unhide p3 _))))
        refine wpQuiet_nil ?_
        rintro _ ⟨q, rfl⟩
        go_wp2_with fail
        go_ret
        exact ⟨retB (b := false) ⟨fun h => (by cases h), fun h => absurd h (unhide no)⟩, bTr (unhide bk) q.h⟩
      have p3 := hide (fun (q : Kept W) => callsT (unhide qa q.w (bTr (unhide bk) q.h)) g3)
      have S := hide (unhide STEP ⟨⟨g0, g1, g2, g3⟩, fun h => absurd h (Nat.lt_irrefl _)⟩)
      clear NO STEP g0 g1 g2 g3
      go_wp2_with fail
      rw [← unhide HW]
      clear HW c0 c1 c2
      refine wp_region_kept (by kernel_rfl) (by kernel_rfl) ?_
      repeat (first
        | go_big_quiet_step (first | (go_at_call 46; with_reducible exact kept_same (unhide qn _)) | (go_at_call 48; with_reducible exact kept_call (unhide p2 _)) | (go_at_call 49; with_reducible exact kept_call (unhide p3 _)))
        | quiet_step (first | (go_at_call 46; with_reducible exact kept_same (unhide qn _)) | (go_at_call 48; with_reducible exact kept_call (unhide p2 _)) | (go_at_call 49; with_reducible exact kept_call (unhide p3 _))))
      refine wpQuiet_nil ?_
      rintro _ ⟨q, rfl⟩
      have BE := hide (bTr (unhide bk) q.h)
      have RE := hide ((unhide RW).keep q.h)
      go_wp2_with fail
      exact ⟨⟨0 + 1, by omega, by go_num, BE, RE, S⟩, by simp [intOf]; omega⟩
    · obtain ⟨j, rfl⟩ : ∃ j, k = j + 1 := ⟨k - 1, by omega⟩
      have hj : j < lt.length := by omega
      have rj := (unhide RR).fr (Fr.below bW 0) (Nat.zero_le _)
      have zj : b < W.heap.size := Nat.lt_of_lt_of_le zk bW.size
      have t0 := kept_cell zj (rj.c0 j hj)
      have qc := hide (fun (q : Kept W) => cmpText_any lt[j].t.f0 lt[j + 1].t.f0 q.w (unhide HTN _ (List.getElem_mem hj)).o0)
      have dj : decide (0 < (j : Int) + 1) = true := decide_eq_true (by omega)
      have ej : IntKind.i64.wrap ((j : Int) + 1 - 1) = (j : Int) := by rw [IntKind.wrap_i64]; omega
      have i0 : (0 : Int) ≤ (j : Int) := by omega
      have i1 : (j : Int) < (h0.len : Int) := by omega
      simp only [Nat.add_sub_cancel] at NO STEP
      clear rj qW RR
      generalize cmpT lt[j].t.f0.data.toList lt[j + 1].t.f0.data.toList = cc at *
      generalize lt[j + 1] = A at *
      generalize lt[j] = Pv at *
      generalize h0.a = aa at e0 y0 y1 RW qt qa ⊢
      subst e0
      cases g0 : goodName A.t.f0
      · have d := g0
        have no := hide (unhide NO (fun h => by have := h.1.1; rw [g0] at this; cases this))
        rw [g0] at qn
        clear g0 d NO STEP
        go_wp2_with fail
        rw [← unhide HW]
        clear HW c0 c1 c2
        refine wp_region_kept (by kernel_rfl) (by kernel_rfl) ?_
        repeat (first
          | go_big_quiet_step (first | (go_at_call 46; with_reducible exact kept_same (unhide qn _)))
          | quiet_step (first | (go_at_call 46; with_reducible exact kept_same (unhide qn _))))
        refine wpQuiet_nil ?_
        rintro _ ⟨q, rfl⟩
        go_wp2_with fail
        go_ret
        exact ⟨retB (b := false) ⟨fun h => (by cases h), fun h => absurd h (unhide no)⟩, bTr (unhide bk) q.h⟩
      rw [g0] at qn
      by_cases g1 : A.t.f0 = actB
      case pos =>
        have d : (ByteArray.toList A.t.f0 == [65, 99, 116, 105, 111, 110]) = true := by rw [g1]; unfold actB; rw [ByteArray.toList_eq]; rfl
        have no := hide (unhide NO (fun h => h.1.2.1 g1))
        clear g1 NO STEP
        go_wp2_with fail
        rw [← unhide HW]
        clear HW c0 c1 c2
        refine wp_region_kept (by kernel_rfl) (by kernel_rfl) ?_
        repeat (first
          | go_big_quiet_step (first | (go_at_call 46; with_reducible exact kept_same (unhide qn _)))
          | quiet_step (first | (go_at_call 46; with_reducible exact kept_same (unhide qn _))))
        refine wpQuiet_nil ?_
        rintro _ ⟨q, rfl⟩
        go_wp2_with fail
        go_ret
        exact ⟨retB (b := false) ⟨fun h => (by cases h), fun h => absurd h (unhide no)⟩, bTr (unhide bk) q.h⟩
      have d1 : (ByteArray.toList A.t.f0 == [65, 99, 116, 105, 111, 110]) = false := by have h := str_neY g1; unfold actB at h; rw [ByteArray.toList_eq ⟨#[65, 99, 116, 105, 111, 110]⟩] at h; exact h
      by_cases hc : cc < 0
      case neg =>
        have dc : decide (0 ≤ cc) = true := by simp; omega
        have no := hide (unhide NO (fun h => hc (h.2 (Nat.succ_pos _))))
        clear hc NO STEP
        go_wp2_with fail
        rw [← unhide HW]
        clear HW c0 c1 c2
        refine wp_region_kept (by kernel_rfl) (by kernel_rfl) ?_
        repeat (first
          | go_big_quiet_step (first | (go_at_call 46; with_reducible exact kept_same (unhide qn _)) | (go_at_call 47; with_reducible exact kept_call (unhide qc _)))
          | quiet_step (first | (go_at_call 46; with_reducible exact kept_same (unhide qn _)) | (go_at_call 47; with_reducible exact kept_call (unhide qc _))))
        refine wpQuiet_nil ?_
        rintro _ ⟨q, rfl⟩
        go_wp2_with fail
        go_ret
        exact ⟨retB (b := false) ⟨fun h => (by cases h), fun h => absurd h (unhide no)⟩, bTr (unhide bk) q.h⟩
      have dc : decide (0 ≤ cc) = false := by simp; omega
      by_cases g3 : PT
      case neg =>
        have p3 := hide (fun (q : Kept W) => callsF (unhide qt q.w (bTr (unhide bk) q.h)) g3)
        have no := hide (unhide NO (fun h => g3 (h.1.2.2.1)))
        clear g3 NO STEP
        go_wp2_with fail
        rw [← unhide HW]
        clear HW c0 c1 c2
        refine wp_region_kept (by kernel_rfl) (by kernel_rfl) ?_
        repeat (first
          | go_big_quiet_step (first | (go_at_call 46; with_reducible exact kept_same (unhide qn _)) | (go_at_call 47; with_reducible exact kept_call (unhide qc _)) | (go_at_call 48; with_reducible exact kept_call (unhide p3 _)))
          | quiet_step (first | (go_at_call 46; with_reducible exact kept_same (unhide qn _)) | (go_at_call 47; with_reducible exact kept_call (unhide qc _)) | (go_at_call 48; with_reducible exact kept_call (unhide p3 _))))
        refine wpQuiet_nil ?_
        rintro _ ⟨q, rfl⟩
        go_wp2_with fail
        go_ret
        exact ⟨retB (b := false) ⟨fun h => (by cases h), fun h => absurd h (unhide no)⟩, bTr (unhide bk) q.h⟩
      have p3 := hide (fun (q : Kept W) => callsT (unhide qt q.w (bTr (unhide bk) q.h)) g3)
      by_cases g4 : PA
      case neg =>
        have p4 := hide (fun (q : Kept W) => callsF (unhide qa q.w (bTr (unhide bk) q.h)) g4)
        have no := hide (unhide NO (fun h => g4 (h.1.2.2.2)))
        clear g4 NO STEP
        go_wp2_with fail
        rw [← unhide HW]
        clear HW c0 c1 c2
        refine wp_region_kept (by kernel_rfl) (by kernel_rfl) ?_
        repeat (first
          | go_big_quiet_step (first | (go_at_call 46; with_reducible exact kept_same (unhide qn _)) | (go_at_call 47; with_reducible exact kept_call (unhide qc _)) | (go_at_call 48; with_reducible exact kept_call (unhide p3 _)) | (go_at_call 49; with_reducible exact kept_call (unhide p4 _)))
          | quiet_step (first | (go_at_call 46; with_reducible exact kept_same (unhide qn _)) | (go_at_call 47; with_reducible exact kept_call (unhide qc _)) | (go_at_call 48; with_reducible exact kept_call (unhide p3 _)) | (go_at_call 49; with_reducible exact kept_call (unhide p4 _))))
        refine wpQuiet_nil ?_
        rintro _ ⟨q, rfl⟩
        go_wp2_with fail
        go_ret
        exact ⟨retB (b := false) ⟨fun h => (by cases h), fun h => absurd h (unhide no)⟩, bTr (unhide bk) q.h⟩
      have p4 := hide (fun (q : Kept W) => callsT (unhide qa q.w (bTr (unhide bk) q.h)) g4)
      have S := hide (unhide STEP ⟨⟨g0, g1, g3, g4⟩, fun _ => hc⟩)
      clear NO STEP g0 g1 g3 g4 hc
      go_wp2_with fail
      rw [← unhide HW]
      clear HW c0 c1 c2
      refine wp_region_kept (by kernel_rfl) (by kernel_rfl) ?_
      repeat (first
        | go_big_quiet_step (first | (go_at_call 46; with_reducible exact kept_same (unhide qn _)) | (go_at_call 47; with_reducible exact kept_call (unhide qc _)) | (go_at_call 48; with_reducible exact kept_call (unhide p3 _)) | (go_at_call 49; with_reducible exact kept_call (unhide p4 _)))
        | quiet_step (first | (go_at_call 46; with_reducible exact kept_same (unhide qn _)) | (go_at_call 47; with_reducible exact kept_call (unhide qc _)) | (go_at_call 48; with_reducible exact kept_call (unhide p3 _)) | (go_at_call 49; with_reducible exact kept_call (unhide p4 _))))
      refine wpQuiet_nil ?_
      rintro _ ⟨q, rfl⟩
      have BE := hide (bTr (unhide bk) q.h)
      have RE := hide ((unhide RW).keep q.h)
      go_wp2_with fail
      exact ⟨⟨(j + 1) + 1, by omega, by go_num, BE, RE, S⟩, by simp [intOf]; omega⟩

end Go.Proofs.Ytkfbecelfkbkkaa.V
