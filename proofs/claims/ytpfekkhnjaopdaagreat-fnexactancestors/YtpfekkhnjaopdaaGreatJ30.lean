/- ZTs, NSh, one behind the other. -/
import Derived.Test.YtpfekkhnjaopdaaGreatJ23
import Derived.Test.YtpfekkhnjaopdaaGreatJ7
import Derived.Test.YtpfekkhnjaopdaaGreatJ29
import Derived.BigQuiet
import Derived.Deep.RegionHeld3
/- GoodThings, the specification's side. -/
namespace Go.Proofs.YtpfekkhnjaopdaaGreat.V
set_option linter.unusedSimpArgs false
open Go.RowKit

def ParAt (ps : List AtomT) (i : Nat) : Prop := ∀ h : i < ps.length, refA ps[i] = true ∧ (0 < i → ps[i - 1].cmp ps[i] < 0)
theorem pars_of {ps : List AtomT} (h : ∀ i, i < ps.length → ParAt ps i) : (∀ p ∈ ps, refA p = true) ∧ RisA ps ps.length :=
  ⟨fun p hp => by obtain ⟨i, hi, rfl⟩ := List.getElem_of_mem hp; exact (h i hi hi).1, fun i hi h0 _ => (h i hi hi).2 h0⟩
theorem pars_at {ps : List AtomT} (h1 : ∀ p ∈ ps, refA p = true) (h2 : RisA ps ps.length) (i : Nat) : ParAt ps i := fun hi => ⟨h1 _ (List.getElem_mem hi), fun h0 => h2 i hi h0 hi⟩
def ThAt (l : List ThingE) (i : Nat) : Prop := ∀ h : i < l.length, GTh l[i].t ∧ (0 < i → l[i - 1].t.f0.cmp l[i].t.f0 < 0)
theorem things_of {l : List ThingE} (hl : l.length ≤ 100) (h : ∀ i, i < l.length → ThAt l i) : GThs (l.map (·.t)) :=
  ⟨⟨by simpa using hl, fun x hx => by
    obtain ⟨e, he, rfl⟩ := List.mem_map.1 hx
    obtain ⟨i, hi, rfl⟩ := List.getElem_of_mem he
    exact (h i hi hi).1⟩, fun i hi => by
    have hi' : i + 1 < l.length := by simpa using hi
    have := (h (i + 1) hi' hi').2 (Nat.succ_pos _)
    simpa using this⟩
theorem things_at {l : List ThingE} (h : GThs (l.map (·.t))) (i : Nat) : ThAt l i := fun hi =>
  ⟨h.1.2 _ (List.mem_map_of_mem (List.getElem_mem hi)), fun h0 => by
    obtain ⟨j, rfl⟩ : ∃ j, i = j + 1 := ⟨i - 1, by omega⟩
    have := h.2 j (by simpa using hi)
    simpa using this⟩
set_option maxRecDepth 20000 in
set_option maxHeartbeats 8000000 in
theorem sGoodThings_n (h : Hd) (xs : List ThingT) (w : World) (hn : ∀ q ∈ xs, ThingN q) (hl : xs.length ≤ maxLen) (hs : SqThing w 0 h xs) :
    Calls Tryz.prog 21 #[.slice h.a h.len h.cap] w fun r w' => RetB r (GThs xs) ∧ Below w.heap.size w w' := by
  obtain ⟨l, rfl, hs⟩ := hs
  have hl' : l.length ≤ maxLen := by simpa using hl
  have hn' : ∀ e ∈ l, ThingN e.t := fun e he => hn _ (List.mem_map_of_mem he)
  have HL := hide hs.1
  obtain ⟨a, len, cap⟩ := h
  simp only at HL
  by_cases h100 : (100 : Int) < len
  · have no : Hid (¬ GThs (l.map (·.t))) := hide (fun h => by have := h.1.1; simp at this; have := unhide HL; omega)
    have d : decide ((100 : Int) < len) = true := by simpa using h100
    have B := hide (Below.refl w.heap.size w)
    clear hs hl hn hl' hn'
    go_enter Tryz.func21, Tryz.ntmps21
    go_wp2_with fail
    go_ret
    exact ⟨retB (b := false) ⟨fun h => (by cases h), fun h => absurd h (unhide no)⟩, unhide B⟩
  have d100 : decide ((100 : Int) < len) = false := by simp; omega
  have hlen : len ≤ 100 := by omega
  have yes : Hid ((∀ i, i < l.length → ThAt l i) → GThs (l.map (·.t))) := hide (things_of (by have := unhide HL; omega))
  have nos : Hid (∀ i, ¬ ThAt l i → ¬ GThs (l.map (·.t))) := hide (fun i h g => h (things_at g i))
  have HS := hide hs
  have HN := hide hn'
  clear hs hl hn hl' hn' h100
  go_enter Tryz.func21, Tryz.ntmps21
  go_wp2
  go_loopw [12] (fun i w' => ∃ k : Nat, k ≤ len ∧ i = .int .i64 k ∧ Hid (Below w.heap.size w w') ∧ Hid (∀ i, i < k → ThAt l i)) (fun i _ => len - (intOf i).toNat)
  case atStart => exact ⟨0, Nat.zero_le _, rfl, hide (Below.refl _ _), hide (fun i h => absurd h (Nat.not_lt_zero _))⟩
  case round =>
    obtain ⟨k, hk, rfl, B, hA⟩ := hrel
    by_cases hlt : k < len
    case neg =>
      have Y : Hid (GThs (l.map (·.t))) := hide (unhide yes (fun i h => unhide hA i (by have := unhide HL; omega)))
      clear hA yes nos
      go_wp2_with fail
      go_ret
      exact ⟨retB (b := true) ⟨fun _ => unhide Y, fun _ => rfl⟩, unhide B⟩
    have hk' : k < l.length := by have := unhide HL; omega
    obtain ⟨b, off, e0, hrow⟩ := ((unhide HS).keep (unhide B)).at hlt
    simp only at e0
    subst e0
    have R := hide hrow
    have zk := hrow.z
    have c0 := hrow.c0 k hk'
    have c1 := hrow.c1 k hk'
    have c2 := hrow.c2 k hk'
    have c3 := hrow.c3 k hk'
    have c4 := hrow.c4 k hk'
    have c5 := hrow.c5 k hk'
    have c6 := hrow.c6 k hk'
    have hnk := unhide HN _ (List.getElem_mem hk')
    have M := hide (((unhide HS).2.2 _ (List.getElem_mem hk')).keep (unhide B))
    have NO : Hid (¬ (GTh l[k].t ∧ (0 < k → l[k - 1].t.f0.cmp l[k].t.f0 < 0)) → ¬ GThs (l.map (·.t))) := hide (fun h => unhide nos k (fun g => h (g hk')))
    have STEP : Hid ((GTh l[k].t ∧ (0 < k → l[k - 1].t.f0.cmp l[k].t.f0 < 0)) → ∀ i, i < k + 1 → ThAt l i) := hide (fun g i h1 => by
      rcases Nat.lt_or_ge i k with h2 | h2
      · exact unhide hA i h2
      · obtain rfl : i = k := by omega
        exact fun _ => g)
    have qr := hide (fun w => l11Ref_any l[k].t.f0 w hnk.o0)
    have qf := hide (fun w (hm : ThingM w 0 l[k]) => l11Fields_any l[k].h2 l[k].h3 l[k].t.f2 l[k].t.f3 w hnk.o2 hnk.l2 hnk.o3 hnk.l3 hm.m2 hm.m3)
    have OP := hide hnk.o1
    have EL := hide ((unhide M).m1.1)
    have DG : Hid (GTh l[k].t ↔ (refA l[k].t.f0 = true ∧ (l[k].t.f1.length ≤ 50 ∧ ∀ p ∈ l[k].t.f1, refA p = true) ∧ RisA l[k].t.f1 l[k].t.f1.length ∧ Fields l[k].t.f2 l[k].t.f3)) := hide Iff.rfl
    clear hrow hA yes nos
    obtain ⟨W, hW⟩ : ∃ W, W = wr.alloc (.cells #[.int .i64 l[k].t.f0.x, .int .i64 l[k].t.f0.n, .string l[k].t.f0.t, .string l[k].t.f0.y, .slice l[k].h1.a l[k].h1.len l[k].h1.cap, .slice l[k].h2.a l[k].h2.len l[k].h2.cap, .slice l[k].h3.a l[k].h3.len l[k].h3.cap] 56) := ⟨_, rfl⟩
    have bW : Below wr.heap.size wr W := by rw [hW]; exact bAl (Below.refl _ _) _
    have qW : RowIs W wr.heap.size #[.int .i64 l[k].t.f0.x, .int .i64 l[k].t.f0.n, .string l[k].t.f0.t, .string l[k].t.f0.y, .slice l[k].h1.a l[k].h1.len l[k].h1.cap, .slice l[k].h2.a l[k].h2.len l[k].h2.cap, .slice l[k].h3.a l[k].h3.len l[k].h3.cap] 56 := by rw [hW]; exact RowIs.new wr _ _
    have HW := hide hW
    clear hW
    have ne : Nonempty (Kept W) := ⟨⟨W, Below.refl _ _⟩⟩
    have x0 := kept_cell (W := W) (p := ⟨wr.heap.size, 0, none⟩) qW.lt (qW.at (o := 0) (v := .int .i64 l[k].t.f0.x) rfl)
    have x1 := kept_cell (W := W) (p := ⟨wr.heap.size, 1, none⟩) qW.lt (qW.at (o := 1) (v := .int .i64 l[k].t.f0.n) rfl)
    have x2 := kept_cell (W := W) (p := ⟨wr.heap.size, 2, none⟩) qW.lt (qW.at (o := 2) (v := .string l[k].t.f0.t) rfl)
    have x3 := kept_cell (W := W) (p := ⟨wr.heap.size, 3, none⟩) qW.lt (qW.at (o := 3) (v := .string l[k].t.f0.y) rfl)
    have x4 := kept_cell (W := W) (p := ⟨wr.heap.size, 4, none⟩) qW.lt (qW.at (o := 4) (v := .slice l[k].h1.a l[k].h1.len l[k].h1.cap) rfl)
    have x5 := kept_cell (W := W) (p := ⟨wr.heap.size, 5, none⟩) qW.lt (qW.at (o := 5) (v := .slice l[k].h2.a l[k].h2.len l[k].h2.cap) rfl)
    have x6 := kept_cell (W := W) (p := ⟨wr.heap.size, 6, none⟩) qW.lt (qW.at (o := 6) (v := .slice l[k].h3.a l[k].h3.len l[k].h3.cap) rfl)
    have bk := hide (bTr (unhide B) bW)
    have MW := hide ((unhide M).keep bW)
    have QW := hide qW
    by_cases hk0 : k = 0
    · subst hk0
      simp only [Nat.zero_mul, Nat.add_zero] at c0 c1 c2 c3 c4 c5 c6
      clear qW R
      generalize l[0] = A at *
      by_cases gR : refA A.t.f0 = true
      case neg =>
        have qk := hide (fun (q : Kept W) => callsF (unhide qr q.w) gR)
        have no := hide (unhide NO (fun h => gR ((unhide DG).1 h.1).1))
        clear gR qr qf DG STEP NO
        go_wp2_with fail
        rw [← unhide HW]
        clear HW c0 c1 c2 c3 c4 c5 c6
        refine wp_region_kept (by kernel_rfl) (by kernel_rfl) ?_
        repeat (first
          | go_big_quiet_step (first | (go_at_call 22; exact kept_call (unhide qk _)))
          | quiet_step (first | (go_at_call 22; exact kept_call (unhide qk _))))
        refine wpQuiet_nil ?_
        rintro _ ⟨q, rfl⟩
        go_wp2_with fail
        go_ret
        exact ⟨retB (b := false) ⟨fun h => (by cases h), fun h => absurd h (unhide no)⟩, bTr (unhide bk) q.h⟩
      have qk := hide (fun (q : Kept W) => callsT (unhide qr q.w) gR)
      by_cases h50 : (50 : Int) < A.h1.len
      case pos =>
        have no := hide (unhide NO (fun h => by have := ((unhide DG).1 h.1).2.1.1; have := unhide EL; omega))
        have dl : decide ((50 : Int) < A.h1.len) = true := decide_eq_true h50
        clear gR qr qf DG STEP NO h50
        go_wp2_with fail
        rw [← unhide HW]
        clear HW c0 c1 c2 c3 c4 c5 c6
        refine wp_region_kept (by kernel_rfl) (by kernel_rfl) ?_
        repeat (first
          | go_big_quiet_step (first | (go_at_call 22; exact kept_call (unhide qk _)) | (go_at_call 44; exact kept_call (unhide qg _)))
          | quiet_step (first | (go_at_call 22; exact kept_call (unhide qk _)) | (go_at_call 44; exact kept_call (unhide qg _))))
        refine wpQuiet_nil ?_
        rintro _ ⟨q, rfl⟩
        go_wp2_with fail
        go_ret
        exact ⟨retB (b := false) ⟨fun h => (by cases h), fun h => absurd h (unhide no)⟩, bTr (unhide bk) q.h⟩
      have dl : decide ((50 : Int) < A.h1.len) = false := by simp; omega
      by_cases gF : Fields A.t.f2 A.t.f3
      case neg =>
        have qg := hide (fun (q : Kept W) => callsF (unhide qf q.w ((unhide MW).keep q.h)) gF)
        have no := hide (unhide NO (fun h => gF ((unhide DG).1 h.1).2.2.2))
        clear gR qr qf DG STEP NO h50 gF
        go_wp2_with fail
        rw [← unhide HW]
        clear HW c0 c1 c2 c3 c4 c5 c6
        refine wp_region_kept (by kernel_rfl) (by kernel_rfl) ?_
        repeat (first
          | go_big_quiet_step (first | (go_at_call 22; exact kept_call (unhide qk _)) | (go_at_call 44; exact kept_call (unhide qg _)))
          | quiet_step (first | (go_at_call 22; exact kept_call (unhide qk _)) | (go_at_call 44; exact kept_call (unhide qg _))))
        refine wpQuiet_nil ?_
        rintro _ ⟨q, rfl⟩
        go_wp2_with fail
        go_ret
        exact ⟨retB (b := false) ⟨fun h => (by cases h), fun h => absurd h (unhide no)⟩, bTr (unhide bk) q.h⟩
      have qg := hide (fun (q : Kept W) => callsT (unhide qf q.w ((unhide MW).keep q.h)) gF)
      have STEP2 := hide (fun (hp : ∀ i, i < A.t.f1.length → ParAt A.t.f1 i) => unhide STEP ⟨(unhide DG).2 ⟨gR, ⟨by have := unhide EL; omega, (pars_of hp).1⟩, (pars_of hp).2, gF⟩, fun h => absurd h (Nat.lt_irrefl _)⟩)
      have NO2 : Hid (∀ i, ¬ ParAt A.t.f1 i → ¬ GThs (l.map (·.t))) := hide (fun i h => unhide NO (fun g => h (pars_at ((unhide DG).1 g.1).2.1.2 ((unhide DG).1 g.1).2.2.1 i)))
      have h50' : A.h1.len ≤ 50 := by omega
      clear gR qr qf DG STEP NO h50 gF 
      go_wp2_with fail
      rw [← unhide HW]
      clear HW c0 c1 c2 c3 c4 c5 c6
      refine wp_region_kept (by kernel_rfl) (by kernel_rfl) ?_
      repeat (first
        | go_big_quiet_step (first | (go_at_call 22; exact kept_call (unhide qk _)) | (go_at_call 44; exact kept_call (unhide qg _)))
        | quiet_step (first | (go_at_call 22; exact kept_call (unhide qk _)) | (go_at_call 44; exact kept_call (unhide qg _))))
      refine wpQuiet_nil ?_
      rintro _ ⟨q, rfl⟩
      have BV := hide (bTr (unhide bk) q.h)
      have MV := hide ((unhide MW).keep q.h)
      have QV := hide ((unhide QW).keep q.h)
      obtain ⟨V0, hV0⟩ := q
      simp only at BV MV QV ⊢
      clear ne x0 x1 x2 x3 x4 x5 x6 bk MW QW hV0 M bW zk qk qg 
      generalize wr.heap.size = bx at QV ⊢
      have c4 := (unhide QV).at (o := 4) (v := .slice A.h1.a A.h1.len A.h1.cap) rfl
      go_wp2_with fail
      clear c4
      go_loopw [54] (fun i w' => ∃ m : Nat, m ≤ A.h1.len ∧ i = .int .i64 m ∧ Hid (Below w.heap.size w w' ∧ Below V0.heap.size V0 w') ∧ Hid (∀ i, i < m → ParAt A.t.f1 i)) (fun i _ => A.h1.len - (intOf i).toNat)
      case atStart => exact ⟨0, Nat.zero_le _, rfl, hide ⟨unhide BV, Below.refl _ _⟩, hide (fun i h => absurd h (Nat.not_lt_zero _))⟩
      case round =>
        obtain ⟨m, hm, rfl, Bi, hP⟩ := hrel
        by_cases hlt2 : m < A.h1.len
        case neg =>
          have S := hide (unhide STEP2 (fun i h => unhide hP i (by have := unhide EL; omega)))
          have B2 := hide (unhide Bi).1
          clear hP STEP2 NO2
          go_wp2_with fail
          exact ⟨⟨0 + 1, by omega, by go_num, B2, S⟩, by simp [intOf]; omega⟩
        have hm' : m < A.t.f1.length := by have := unhide EL; omega
        have c4 := ((unhide QV).keep (unhide Bi).2).at (o := 4) (v := .slice A.h1.a A.h1.len A.h1.cap) rfl
        have zb := ((unhide QV).keep (unhide Bi).2).lt
        obtain ⟨b1, off1, e1, row1⟩ := ((unhide MV).m1.keep (unhide Bi).2).sl.at hlt2
        have R1 := hide row1
        have z1 := row1.z
        obtain ⟨p0, p1, p2, p3⟩ := row1.c m hm'
        have qp := hide (fun w => l11Ref_any A.t.f1[m] w (unhide OP _ (List.getElem_mem hm')))
        have NOP : Hid (¬ (refA A.t.f1[m] = true ∧ (0 < m → A.t.f1[m - 1].cmp A.t.f1[m] < 0)) → ¬ GThs (l.map (·.t))) := hide (fun h => unhide NO2 m (fun g => h (g hm')))
        have STP : Hid ((refA A.t.f1[m] = true ∧ (0 < m → A.t.f1[m - 1].cmp A.t.f1[m] < 0)) → ∀ i, i < m + 1 → ParAt A.t.f1 i) := hide (fun g i h1 => by
          rcases Nat.lt_or_ge i m with h2 | h2
          · exact unhide hP i h2
          · obtain rfl : i = m := by omega
            exact fun _ => g)
        obtain ⟨W, hW⟩ : ∃ W, W = wr.alloc (.cells #[.int .i64 A.t.f1[m].x, .int .i64 A.t.f1[m].n, .string A.t.f1[m].t, .string A.t.f1[m].y] 31) := ⟨_, rfl⟩
        have bW : Below wr.heap.size wr W := by rw [hW]; exact bAl (Below.refl _ _) _
        have qW : RowIs W wr.heap.size #[.int .i64 A.t.f1[m].x, .int .i64 A.t.f1[m].n, .string A.t.f1[m].t, .string A.t.f1[m].y] 31 := by rw [hW]; exact RowIs.new wr _ _
        have HW := hide hW
        clear hW hP NO2 STEP2
        have ne : Nonempty (Kept W) := ⟨⟨W, Below.refl _ _⟩⟩
        have x0 := kept_cell (W := W) (p := ⟨wr.heap.size, 0, none⟩) qW.lt (qW.at (o := 0) (v := .int .i64 A.t.f1[m].x) rfl)
        have x1 := kept_cell (W := W) (p := ⟨wr.heap.size, 1, none⟩) qW.lt (qW.at (o := 1) (v := .int .i64 A.t.f1[m].n) rfl)
        have x2 := kept_cell (W := W) (p := ⟨wr.heap.size, 2, none⟩) qW.lt (qW.at (o := 2) (v := .string A.t.f1[m].t) rfl)
        have x3 := kept_cell (W := W) (p := ⟨wr.heap.size, 3, none⟩) qW.lt (qW.at (o := 3) (v := .string A.t.f1[m].y) rfl)
        have bk := hide (bTr (unhide Bi).1 bW)
        have bv := hide (bTr (unhide Bi).2 bW)
        have y4 := kept_cell (W := W) (p := ⟨bx, 4, none⟩) (Nat.lt_of_lt_of_le zb bW.size) (cellB bW zb c4)
        by_cases hm0 : m = 0
        · subst hm0
          simp only [Nat.zero_mul, Nat.add_zero] at p0 p1 p2 p3
          clear qW row1 R1
          generalize A.t.f1[0] = P at *
          generalize A.h1.a = aa at e1 c4 y4 ⊢
          subst e1
          by_cases gP : refA P = true
          case neg =>
            have qk := hide (fun (q : Kept W) => callsF (unhide qp q.w) gP)
            have no := hide (unhide NOP (fun h => gP h.1))
            clear gP qp NOP STP
            go_wp2_with fail
            rw [← unhide HW]
            clear HW p0 p1 p2 p3
            refine wp_region_kept (by kernel_rfl) (by kernel_rfl) ?_
            repeat (first
              | go_big_quiet_step (first | (go_at_call 22; exact kept_call (unhide qk _)))
              | quiet_step (first | (go_at_call 22; exact kept_call (unhide qk _))))
            refine wpQuiet_nil ?_
            rintro _ ⟨q, rfl⟩
            go_wp2_with fail
            go_ret
            exact ⟨retB (b := false) ⟨fun h => (by cases h), fun h => absurd h (unhide no)⟩, bTr (unhide bk) q.h⟩
          have qk := hide (fun (q : Kept W) => callsT (unhide qp q.w) gP)
          have S := hide (unhide STP ⟨gP, fun h => absurd h (Nat.lt_irrefl _)⟩)
          clear gP qp NOP STP
          go_wp2_with fail
          rw [← unhide HW]
          clear HW p0 p1 p2 p3
          refine wp_region_kept (by kernel_rfl) (by kernel_rfl) ?_
          repeat (first
            | go_big_quiet_step (first | (go_at_call 22; exact kept_call (unhide qk _)))
            | quiet_step (first | (go_at_call 22; exact kept_call (unhide qk _))))
          refine wpQuiet_nil ?_
          rintro _ ⟨q, rfl⟩
          have BE := hide (⟨bTr (unhide bk) q.h, bTr (unhide bv) q.h⟩ : Below w.heap.size w q.w ∧ Below V0.heap.size V0 q.w)
          go_wp2_with fail
          exact ⟨⟨0 + 1, by omega, by go_num, BE, S⟩, by simp [intOf]; omega⟩
        · obtain ⟨j', rfl⟩ : ∃ j', m = j' + 1 := ⟨m - 1, by omega⟩
          have hj' : j' < A.t.f1.length := by omega
          have pj := ((unhide R1).c j' hj').keep z1 bW
          have zj : b1 < W.heap.size := Nat.lt_of_lt_of_le z1 bW.size
          have t0 := kept_cell zj pj.c0
          have t1 := kept_cell zj pj.c1
          have t2 := kept_cell zj pj.c2
          have t3 := kept_cell zj pj.c3
          have qc := hide (fun (q : Kept W) => AtomT.isCmp A.t.f1[j'] A.t.f1[j' + 1] (unhide OP _ (List.getElem_mem hj')) q.w)
          have dj : decide (0 < (j' : Int) + 1) = true := decide_eq_true (by omega)
          have ej : IntKind.i64.wrap ((j' : Int) + 1 - 1) = (j' : Int) := by rw [IntKind.wrap_i64]; omega
          have i0 : (0 : Int) ≤ (j' : Int) := by omega
          have i1 : (j' : Int) < (A.h1.len : Int) := by omega
          simp only [Nat.add_sub_cancel] at NOP STP
          clear pj qW row1 R1
          generalize A.t.f1[j'].cmp A.t.f1[j' + 1] = cc at *
          generalize A.t.f1[j' + 1] = P at *
          generalize A.t.f1[j'] = Q at *
          generalize A.h1.a = aa at e1 c4 y4 ⊢
          subst e1
          by_cases gP : refA P = true
          case neg =>
            have qk := hide (fun (q : Kept W) => callsF (unhide qp q.w) gP)
            have no := hide (unhide NOP (fun h => gP h.1))
            clear gP qp NOP STP
            go_wp2_with fail
            rw [← unhide HW]
            clear HW p0 p1 p2 p3
            refine wp_region_kept (by kernel_rfl) (by kernel_rfl) ?_
            repeat (first
              | go_big_quiet_step (first | (go_at_call 22; exact kept_call (unhide qk _)) | (go_at_call 43; exact kept_call (unhide qc _)))
              | quiet_step (first | (go_at_call 22; exact kept_call (unhide qk _)) | (go_at_call 43; exact kept_call (unhide qc _))))
            refine wpQuiet_nil ?_
            rintro _ ⟨q, rfl⟩
            go_wp2_with fail
            go_ret
            exact ⟨retB (b := false) ⟨fun h => (by cases h), fun h => absurd h (unhide no)⟩, bTr (unhide bk) q.h⟩
          have qk := hide (fun (q : Kept W) => callsT (unhide qp q.w) gP)
          by_cases hc : cc < 0
          case neg =>
            have no := hide (unhide NOP (fun h => hc (h.2 (Nat.succ_pos _))))
            have dc : decide (0 ≤ cc) = true := by simp; omega
            clear gP qp hc NOP STP
            go_wp2_with fail
            rw [← unhide HW]
            clear HW p0 p1 p2 p3
            refine wp_region_kept (by kernel_rfl) (by kernel_rfl) ?_
            repeat (first
              | go_big_quiet_step (first | (go_at_call 22; exact kept_call (unhide qk _)) | (go_at_call 43; exact kept_call (unhide qc _)))
              | quiet_step (first | (go_at_call 22; exact kept_call (unhide qk _)) | (go_at_call 43; exact kept_call (unhide qc _))))
            refine wpQuiet_nil ?_
            rintro _ ⟨q, rfl⟩
            go_wp2_with fail
            go_ret
            exact ⟨retB (b := false) ⟨fun h => (by cases h), fun h => absurd h (unhide no)⟩, bTr (unhide bk) q.h⟩
          have S := hide (unhide STP ⟨gP, fun _ => hc⟩)
          have dc : decide (0 ≤ cc) = false := by simp; omega
          clear gP qp hc NOP STP
          go_wp2_with fail
          rw [← unhide HW]
          clear HW p0 p1 p2 p3
          refine wp_region_kept (by kernel_rfl) (by kernel_rfl) ?_
          repeat (first
            | go_big_quiet_step (first | (go_at_call 22; exact kept_call (unhide qk _)) | (go_at_call 43; exact kept_call (unhide qc _)))
            | quiet_step (first | (go_at_call 22; exact kept_call (unhide qk _)) | (go_at_call 43; exact kept_call (unhide qc _))))
          refine wpQuiet_nil ?_
          rintro _ ⟨q, rfl⟩
          have BE := hide (⟨bTr (unhide bk) q.h, bTr (unhide bv) q.h⟩ : Below w.heap.size w q.w ∧ Below V0.heap.size V0 q.w)
          go_wp2_with fail
          exact ⟨⟨(j' + 1) + 1, by omega, by go_num, BE, S⟩, by simp [intOf]; omega⟩
    · obtain ⟨j, rfl⟩ : ∃ j, k = j + 1 := ⟨k - 1, by omega⟩
      have hj : j < l.length := by omega
      have rj := (unhide R).fr (Fr.below bW 0) (Nat.zero_le _)
      have zj : b < W.heap.size := Nat.lt_of_lt_of_le zk bW.size
      have t0 := kept_cell zj (rj.c0 j hj)
      have t1 := kept_cell zj (rj.c1 j hj)
      have t2 := kept_cell zj (rj.c2 j hj)
      have t3 := kept_cell zj (rj.c3 j hj)
      have qc := hide (fun (q : Kept W) => AtomT.isCmp l[j].t.f0 l[j + 1].t.f0 (unhide HN _ (List.getElem_mem hj)).o0 q.w)
      have dj : decide (0 < (j : Int) + 1) = true := decide_eq_true (by omega)
      have ej : IntKind.i64.wrap ((j : Int) + 1 - 1) = (j : Int) := by rw [IntKind.wrap_i64]; omega
      have i0 : (0 : Int) ≤ (j : Int) := by omega
      have i1 : (j : Int) < (len : Int) := by omega
      simp only [Nat.add_sub_cancel] at NO STEP
      clear rj qW R
      generalize l[j].t.f0.cmp l[j + 1].t.f0 = cc at *
      generalize l[j + 1] = A at *
      generalize l[j] = Pv at *
      by_cases gR : refA A.t.f0 = true
      case neg =>
        have qk := hide (fun (q : Kept W) => callsF (unhide qr q.w) gR)
        have no := hide (unhide NO (fun h => gR ((unhide DG).1 h.1).1))
        clear gR qr qf DG STEP NO
        go_wp2_with fail
        rw [← unhide HW]
        clear HW c0 c1 c2 c3 c4 c5 c6
        refine wp_region_kept (by kernel_rfl) (by kernel_rfl) ?_
        repeat (first
          | go_big_quiet_step (first | (go_at_call 22; exact kept_call (unhide qk _)) | (go_at_call 43; exact kept_call (unhide qc _)))
          | quiet_step (first | (go_at_call 22; exact kept_call (unhide qk _)) | (go_at_call 43; exact kept_call (unhide qc _))))
        refine wpQuiet_nil ?_
        rintro _ ⟨q, rfl⟩
        go_wp2_with fail
        go_ret
        exact ⟨retB (b := false) ⟨fun h => (by cases h), fun h => absurd h (unhide no)⟩, bTr (unhide bk) q.h⟩
      have qk := hide (fun (q : Kept W) => callsT (unhide qr q.w) gR)
      by_cases hc : cc < 0
      case neg =>
        have no := hide (unhide NO (fun h => hc (h.2 (Nat.succ_pos _))))
        have dc : decide (0 ≤ cc) = true := by simp; omega
        clear gR qr qf hc DG STEP NO
        go_wp2_with fail
        rw [← unhide HW]
        clear HW c0 c1 c2 c3 c4 c5 c6
        refine wp_region_kept (by kernel_rfl) (by kernel_rfl) ?_
        repeat (first
          | go_big_quiet_step (first | (go_at_call 22; exact kept_call (unhide qk _)) | (go_at_call 43; exact kept_call (unhide qc _)))
          | quiet_step (first | (go_at_call 22; exact kept_call (unhide qk _)) | (go_at_call 43; exact kept_call (unhide qc _))))
        refine wpQuiet_nil ?_
        rintro _ ⟨q, rfl⟩
        go_wp2_with fail
        go_ret
        exact ⟨retB (b := false) ⟨fun h => (by cases h), fun h => absurd h (unhide no)⟩, bTr (unhide bk) q.h⟩
      have dc : decide (0 ≤ cc) = false := by simp; omega
      by_cases h50 : (50 : Int) < A.h1.len
      case pos =>
        have no := hide (unhide NO (fun h => by have := ((unhide DG).1 h.1).2.1.1; have := unhide EL; omega))
        have dl : decide ((50 : Int) < A.h1.len) = true := decide_eq_true h50
        clear gR qr qf DG STEP NO h50
        go_wp2_with fail
        rw [← unhide HW]
        clear HW c0 c1 c2 c3 c4 c5 c6
        refine wp_region_kept (by kernel_rfl) (by kernel_rfl) ?_
        repeat (first
          | go_big_quiet_step (first | (go_at_call 22; exact kept_call (unhide qk _)) | (go_at_call 44; exact kept_call (unhide qg _)) | (go_at_call 43; exact kept_call (unhide qc _)))
          | quiet_step (first | (go_at_call 22; exact kept_call (unhide qk _)) | (go_at_call 44; exact kept_call (unhide qg _)) | (go_at_call 43; exact kept_call (unhide qc _))))
        refine wpQuiet_nil ?_
        rintro _ ⟨q, rfl⟩
        go_wp2_with fail
        go_ret
        exact ⟨retB (b := false) ⟨fun h => (by cases h), fun h => absurd h (unhide no)⟩, bTr (unhide bk) q.h⟩
      have dl : decide ((50 : Int) < A.h1.len) = false := by simp; omega
      by_cases gF : Fields A.t.f2 A.t.f3
      case neg =>
        have qg := hide (fun (q : Kept W) => callsF (unhide qf q.w ((unhide MW).keep q.h)) gF)
        have no := hide (unhide NO (fun h => gF ((unhide DG).1 h.1).2.2.2))
        clear gR qr qf DG STEP NO h50 gF
        go_wp2_with fail
        rw [← unhide HW]
        clear HW c0 c1 c2 c3 c4 c5 c6
        refine wp_region_kept (by kernel_rfl) (by kernel_rfl) ?_
        repeat (first
          | go_big_quiet_step (first | (go_at_call 22; exact kept_call (unhide qk _)) | (go_at_call 44; exact kept_call (unhide qg _)) | (go_at_call 43; exact kept_call (unhide qc _)))
          | quiet_step (first | (go_at_call 22; exact kept_call (unhide qk _)) | (go_at_call 44; exact kept_call (unhide qg _)) | (go_at_call 43; exact kept_call (unhide qc _))))
        refine wpQuiet_nil ?_
        rintro _ ⟨q, rfl⟩
        go_wp2_with fail
        go_ret
        exact ⟨retB (b := false) ⟨fun h => (by cases h), fun h => absurd h (unhide no)⟩, bTr (unhide bk) q.h⟩
      have qg := hide (fun (q : Kept W) => callsT (unhide qf q.w ((unhide MW).keep q.h)) gF)
      have STEP2 := hide (fun (hp : ∀ i, i < A.t.f1.length → ParAt A.t.f1 i) => unhide STEP ⟨(unhide DG).2 ⟨gR, ⟨by have := unhide EL; omega, (pars_of hp).1⟩, (pars_of hp).2, gF⟩, fun _ => hc⟩)
      have NO2 : Hid (∀ i, ¬ ParAt A.t.f1 i → ¬ GThs (l.map (·.t))) := hide (fun i h => unhide NO (fun g => h (pars_at ((unhide DG).1 g.1).2.1.2 ((unhide DG).1 g.1).2.2.1 i)))
      have h50' : A.h1.len ≤ 50 := by omega
      clear gR qr qf DG STEP NO h50 gF hc
      go_wp2_with fail
      rw [← unhide HW]
      clear HW c0 c1 c2 c3 c4 c5 c6
      refine wp_region_kept (by kernel_rfl) (by kernel_rfl) ?_
      repeat (first
        | go_big_quiet_step (first | (go_at_call 22; exact kept_call (unhide qk _)) | (go_at_call 44; exact kept_call (unhide qg _)) | (go_at_call 43; exact kept_call (unhide qc _)))
        | quiet_step (first | (go_at_call 22; exact kept_call (unhide qk _)) | (go_at_call 44; exact kept_call (unhide qg _)) | (go_at_call 43; exact kept_call (unhide qc _))))
      refine wpQuiet_nil ?_
      rintro _ ⟨q, rfl⟩
      have BV := hide (bTr (unhide bk) q.h)
      have MV := hide ((unhide MW).keep q.h)
      have QV := hide ((unhide QW).keep q.h)
      obtain ⟨V0, hV0⟩ := q
      simp only at BV MV QV ⊢
      clear ne x0 x1 x2 x3 x4 x5 x6 bk MW QW hV0 M bW zk qk qg qc t0 t1 t2 t3 dc dj ej i0 i1 zj
      generalize wr.heap.size = bx at QV ⊢
      have c4 := (unhide QV).at (o := 4) (v := .slice A.h1.a A.h1.len A.h1.cap) rfl
      go_wp2_with fail
      clear c4
      go_loopw [54] (fun i w' => ∃ m : Nat, m ≤ A.h1.len ∧ i = .int .i64 m ∧ Hid (Below w.heap.size w w' ∧ Below V0.heap.size V0 w') ∧ Hid (∀ i, i < m → ParAt A.t.f1 i)) (fun i _ => A.h1.len - (intOf i).toNat)
      case atStart => exact ⟨0, Nat.zero_le _, rfl, hide ⟨unhide BV, Below.refl _ _⟩, hide (fun i h => absurd h (Nat.not_lt_zero _))⟩
      case round =>
        obtain ⟨m, hm, rfl, Bi, hP⟩ := hrel
        by_cases hlt2 : m < A.h1.len
        case neg =>
          have S := hide (unhide STEP2 (fun i h => unhide hP i (by have := unhide EL; omega)))
          have B2 := hide (unhide Bi).1
          clear hP STEP2 NO2
          go_wp2_with fail
          exact ⟨⟨(j + 1) + 1, by omega, by go_num, B2, S⟩, by simp [intOf]; omega⟩
        have hm' : m < A.t.f1.length := by have := unhide EL; omega
        have c4 := ((unhide QV).keep (unhide Bi).2).at (o := 4) (v := .slice A.h1.a A.h1.len A.h1.cap) rfl
        have zb := ((unhide QV).keep (unhide Bi).2).lt
        obtain ⟨b1, off1, e1, row1⟩ := ((unhide MV).m1.keep (unhide Bi).2).sl.at hlt2
        have R1 := hide row1
        have z1 := row1.z
        obtain ⟨p0, p1, p2, p3⟩ := row1.c m hm'
        have qp := hide (fun w => l11Ref_any A.t.f1[m] w (unhide OP _ (List.getElem_mem hm')))
        have NOP : Hid (¬ (refA A.t.f1[m] = true ∧ (0 < m → A.t.f1[m - 1].cmp A.t.f1[m] < 0)) → ¬ GThs (l.map (·.t))) := hide (fun h => unhide NO2 m (fun g => h (g hm')))
        have STP : Hid ((refA A.t.f1[m] = true ∧ (0 < m → A.t.f1[m - 1].cmp A.t.f1[m] < 0)) → ∀ i, i < m + 1 → ParAt A.t.f1 i) := hide (fun g i h1 => by
          rcases Nat.lt_or_ge i m with h2 | h2
          · exact unhide hP i h2
          · obtain rfl : i = m := by omega
            exact fun _ => g)
        obtain ⟨W, hW⟩ : ∃ W, W = wr.alloc (.cells #[.int .i64 A.t.f1[m].x, .int .i64 A.t.f1[m].n, .string A.t.f1[m].t, .string A.t.f1[m].y] 31) := ⟨_, rfl⟩
        have bW : Below wr.heap.size wr W := by rw [hW]; exact bAl (Below.refl _ _) _
        have qW : RowIs W wr.heap.size #[.int .i64 A.t.f1[m].x, .int .i64 A.t.f1[m].n, .string A.t.f1[m].t, .string A.t.f1[m].y] 31 := by rw [hW]; exact RowIs.new wr _ _
        have HW := hide hW
        clear hW hP NO2 STEP2
        have ne : Nonempty (Kept W) := ⟨⟨W, Below.refl _ _⟩⟩
        have x0 := kept_cell (W := W) (p := ⟨wr.heap.size, 0, none⟩) qW.lt (qW.at (o := 0) (v := .int .i64 A.t.f1[m].x) rfl)
        have x1 := kept_cell (W := W) (p := ⟨wr.heap.size, 1, none⟩) qW.lt (qW.at (o := 1) (v := .int .i64 A.t.f1[m].n) rfl)
        have x2 := kept_cell (W := W) (p := ⟨wr.heap.size, 2, none⟩) qW.lt (qW.at (o := 2) (v := .string A.t.f1[m].t) rfl)
        have x3 := kept_cell (W := W) (p := ⟨wr.heap.size, 3, none⟩) qW.lt (qW.at (o := 3) (v := .string A.t.f1[m].y) rfl)
        have bk := hide (bTr (unhide Bi).1 bW)
        have bv := hide (bTr (unhide Bi).2 bW)
        have y4 := kept_cell (W := W) (p := ⟨bx, 4, none⟩) (Nat.lt_of_lt_of_le zb bW.size) (cellB bW zb c4)
        by_cases hm0 : m = 0
        · subst hm0
          simp only [Nat.zero_mul, Nat.add_zero] at p0 p1 p2 p3
          clear qW row1 R1
          generalize A.t.f1[0] = P at *
          generalize A.h1.a = aa at e1 c4 y4 ⊢
          subst e1
          by_cases gP : refA P = true
          case neg =>
            have qk := hide (fun (q : Kept W) => callsF (unhide qp q.w) gP)
            have no := hide (unhide NOP (fun h => gP h.1))
            clear gP qp NOP STP
            go_wp2_with fail
            rw [← unhide HW]
            clear HW p0 p1 p2 p3
            refine wp_region_kept (by kernel_rfl) (by kernel_rfl) ?_
            repeat (first
              | go_big_quiet_step (first | (go_at_call 22; exact kept_call (unhide qk _)))
              | quiet_step (first | (go_at_call 22; exact kept_call (unhide qk _))))
            refine wpQuiet_nil ?_
            rintro _ ⟨q, rfl⟩
            go_wp2_with fail
            go_ret
            exact ⟨retB (b := false) ⟨fun h => (by cases h), fun h => absurd h (unhide no)⟩, bTr (unhide bk) q.h⟩
          have qk := hide (fun (q : Kept W) => callsT (unhide qp q.w) gP)
          have S := hide (unhide STP ⟨gP, fun h => absurd h (Nat.lt_irrefl _)⟩)
          clear gP qp NOP STP
          go_wp2_with fail
          rw [← unhide HW]
          clear HW p0 p1 p2 p3
          refine wp_region_kept (by kernel_rfl) (by kernel_rfl) ?_
          repeat (first
            | go_big_quiet_step (first | (go_at_call 22; exact kept_call (unhide qk _)))
            | quiet_step (first | (go_at_call 22; exact kept_call (unhide qk _))))
          refine wpQuiet_nil ?_
          rintro _ ⟨q, rfl⟩
          have BE := hide (⟨bTr (unhide bk) q.h, bTr (unhide bv) q.h⟩ : Below w.heap.size w q.w ∧ Below V0.heap.size V0 q.w)
          go_wp2_with fail
          exact ⟨⟨0 + 1, by omega, by go_num, BE, S⟩, by simp [intOf]; omega⟩
        · obtain ⟨j', rfl⟩ : ∃ j', m = j' + 1 := ⟨m - 1, by omega⟩
          have hj' : j' < A.t.f1.length := by omega
          have pj := ((unhide R1).c j' hj').keep z1 bW
          have zj : b1 < W.heap.size := Nat.lt_of_lt_of_le z1 bW.size
          have t0 := kept_cell zj pj.c0
          have t1 := kept_cell zj pj.c1
          have t2 := kept_cell zj pj.c2
          have t3 := kept_cell zj pj.c3
          have qc := hide (fun (q : Kept W) => AtomT.isCmp A.t.f1[j'] A.t.f1[j' + 1] (unhide OP _ (List.getElem_mem hj')) q.w)
          have dj : decide (0 < (j' : Int) + 1) = true := decide_eq_true (by omega)
          have ej : IntKind.i64.wrap ((j' : Int) + 1 - 1) = (j' : Int) := by rw [IntKind.wrap_i64]; omega
          have i0 : (0 : Int) ≤ (j' : Int) := by omega
          have i1 : (j' : Int) < (A.h1.len : Int) := by omega
          simp only [Nat.add_sub_cancel] at NOP STP
          clear pj qW row1 R1
          generalize A.t.f1[j'].cmp A.t.f1[j' + 1] = cc at *
          generalize A.t.f1[j' + 1] = P at *
          generalize A.t.f1[j'] = Q at *
          generalize A.h1.a = aa at e1 c4 y4 ⊢
          subst e1
          by_cases gP : refA P = true
          case neg =>
            have qk := hide (fun (q : Kept W) => callsF (unhide qp q.w) gP)
            have no := hide (unhide NOP (fun h => gP h.1))
            clear gP qp NOP STP
            go_wp2_with fail
            rw [← unhide HW]
            clear HW p0 p1 p2 p3
            refine wp_region_kept (by kernel_rfl) (by kernel_rfl) ?_
            repeat (first
              | go_big_quiet_step (first | (go_at_call 22; exact kept_call (unhide qk _)) | (go_at_call 43; exact kept_call (unhide qc _)))
              | quiet_step (first | (go_at_call 22; exact kept_call (unhide qk _)) | (go_at_call 43; exact kept_call (unhide qc _))))
            refine wpQuiet_nil ?_
            rintro _ ⟨q, rfl⟩
            go_wp2_with fail
            go_ret
            exact ⟨retB (b := false) ⟨fun h => (by cases h), fun h => absurd h (unhide no)⟩, bTr (unhide bk) q.h⟩
          have qk := hide (fun (q : Kept W) => callsT (unhide qp q.w) gP)
          by_cases hc : cc < 0
          case neg =>
            have no := hide (unhide NOP (fun h => hc (h.2 (Nat.succ_pos _))))
            have dc : decide (0 ≤ cc) = true := by simp; omega
            clear gP qp hc NOP STP
            go_wp2_with fail
            rw [← unhide HW]
            clear HW p0 p1 p2 p3
            refine wp_region_kept (by kernel_rfl) (by kernel_rfl) ?_
            repeat (first
              | go_big_quiet_step (first | (go_at_call 22; exact kept_call (unhide qk _)) | (go_at_call 43; exact kept_call (unhide qc _)))
              | quiet_step (first | (go_at_call 22; exact kept_call (unhide qk _)) | (go_at_call 43; exact kept_call (unhide qc _))))
            refine wpQuiet_nil ?_
            rintro _ ⟨q, rfl⟩
            go_wp2_with fail
            go_ret
            exact ⟨retB (b := false) ⟨fun h => (by cases h), fun h => absurd h (unhide no)⟩, bTr (unhide bk) q.h⟩
          have S := hide (unhide STP ⟨gP, fun _ => hc⟩)
          have dc : decide (0 ≤ cc) = false := by simp; omega
          clear gP qp hc NOP STP
          go_wp2_with fail
          rw [← unhide HW]
          clear HW p0 p1 p2 p3
          refine wp_region_kept (by kernel_rfl) (by kernel_rfl) ?_
          repeat (first
            | go_big_quiet_step (first | (go_at_call 22; exact kept_call (unhide qk _)) | (go_at_call 43; exact kept_call (unhide qc _)))
            | quiet_step (first | (go_at_call 22; exact kept_call (unhide qk _)) | (go_at_call 43; exact kept_call (unhide qc _))))
          refine wpQuiet_nil ?_
          rintro _ ⟨q, rfl⟩
          have BE := hide (⟨bTr (unhide bk) q.h, bTr (unhide bv) q.h⟩ : Below w.heap.size w q.w ∧ Below V0.heap.size V0 q.w)
          go_wp2_with fail
          exact ⟨⟨(j' + 1) + 1, by omega, by go_num, BE, S⟩, by simp [intOf]; omega⟩
end Go.Proofs.YtpfekkhnjaopdaaGreat.V
/- spec.l12Matches, HeadMatches. -/
namespace Go.Proofs.YtpfekkhnjaopdaaGreat.V
set_option linter.unusedSimpArgs false
set_option linter.unusedVariables false
open Go.RowKit Go.Maps

set_option maxRecDepth 20000 in
set_option maxHeartbeats 4000000 in
theorem l12Matches_n (hd : Hd) (lt : List ThingE) (h : HeadT) (a : AtomT) (w : World) (hg : GThs (lt.map (·.t))) (hn : ∀ e ∈ lt, ThingN e.t) (hl : lt.length ≤ maxLen) (hs : SqThingE w 0 hd lt) (ha : a.Ok) :
    Calls Tryz.prog 37 #[.slice hd.a hd.len hd.cap, hAgg h, encA a] w fun r w' => RetB r (HMat (parL (lt.map (·.t))) h a) ∧ Below w.heap.size w w' := by
  have q1 := hide (fun (w' : World) (hb : Below w.heap.size w w') => l12Up_n hd lt a w' hg hn hl (hs.keep hb) ha)
  obtain ⟨ax, an, at', ay⟩ := a
  obtain ⟨k, x, n, t, y, ty⟩ := h
  unfold encA at q1 ⊢
  unfold HMat hAt
  simp only at q1 ⊢
  generalize parL (lt.map (·.t)) = P at q1 ⊢
  clear hg hn hl hs ha
  by_cases k1 : k = 1
  · subst k1
    clear q1
    go_enter Tryz.func37, Tryz.ntmps37
    go_wp2_with fail
    go_ret
    exact ⟨retB (b := true) (by simp), bAl (bAl (Below.refl _ _) _) _⟩
  have d1 : (k == 1) = false := by simpa using k1
  rw [if_neg k1]
  by_cases k2 : k = 2
  · subst k2
    clear q1 k1 d1
    rw [if_pos rfl]
    by_cases e0 : x = ax
    case neg =>
      have d : (x == ax) = false := by simpa using e0
      have no : Hid (¬ (⟨ax, an, at', ay⟩ : AtomT) = ⟨x, n, t, y⟩) := hide (fun h => e0 (by have h2 := congrArg AtomT.x h; exact h2.symm))
      clear e0
      go_enter Tryz.func37, Tryz.ntmps37
      go_wp2_with fail
      go_ret
      exact ⟨retB (b := false) ⟨fun h => (by cases h), fun h => absurd h (unhide no)⟩, bAl (bAl (Below.refl _ _) _) _⟩
    subst e0
    by_cases e1 : n = an
    case neg =>
      have d : (n == an) = false := by simpa using e1
      have no : Hid (¬ (⟨x, an, at', ay⟩ : AtomT) = ⟨x, n, t, y⟩) := hide (fun h => e1 (by have h2 := congrArg AtomT.n h; exact h2.symm))
      clear e1
      go_enter Tryz.func37, Tryz.ntmps37
      go_wp2_with fail
      go_ret
      exact ⟨retB (b := false) ⟨fun h => (by cases h), fun h => absurd h (unhide no)⟩, bAl (bAl (Below.refl _ _) _) _⟩
    subst e1
    by_cases e2 : t = at'
    case neg =>
      have d : (ByteArray.toList t == ByteArray.toList at') = false := str_neN e2
      have no : Hid (¬ (⟨x, n, at', ay⟩ : AtomT) = ⟨x, n, t, y⟩) := hide (fun h => e2 (by have h2 := congrArg AtomT.t h; exact h2.symm))
      clear e2
      go_enter Tryz.func37, Tryz.ntmps37
      go_wp2_with fail
      go_ret
      exact ⟨retB (b := false) ⟨fun h => (by cases h), fun h => absurd h (unhide no)⟩, bAl (bAl (Below.refl _ _) _) _⟩
    subst e2
    by_cases e3 : y = ay
    case neg =>
      have d : (ByteArray.toList y == ByteArray.toList ay) = false := str_neN e3
      have no : Hid (¬ (⟨x, n, t, ay⟩ : AtomT) = ⟨x, n, t, y⟩) := hide (fun h => e3 (by have h2 := congrArg AtomT.y h; exact h2.symm))
      clear e3
      go_enter Tryz.func37, Tryz.ntmps37
      go_wp2_with fail
      go_ret
      exact ⟨retB (b := false) ⟨fun h => (by cases h), fun h => absurd h (unhide no)⟩, bAl (bAl (Below.refl _ _) _) _⟩
    subst e3
    go_enter Tryz.func37, Tryz.ntmps37
    go_wp2_with fail
    go_ret
    exact ⟨retB (b := true) (by first | exact ⟨fun _ => rfl, fun _ => rfl⟩ | simp), bAl (bAl (Below.refl _ _) _) _⟩
  have d2 : (k == 2) = false := by simpa using k2
  rw [if_neg k2]
  by_cases k3 : k = 3
  · subst k3
    clear k1 k2 d1 d2
    rw [if_pos rfl]
    obtain ⟨W, hW⟩ : ∃ W, W = (w.alloc (.cells #[.int .i64 3, .int .i64 x, .int .i64 n, .string t, .string y, .string ty] 43)).alloc (.cells #[.int .i64 ax, .int .i64 an, .string at', .string ay] 31) := ⟨_, rfl⟩
    have bW : Below w.heap.size w W := by rw [hW]; exact bAl (bAl (Below.refl _ _) _) _
    have RH : Hid (RowIs W w.heap.size #[.int .i64 3, .int .i64 x, .int .i64 n, .string t, .string y, .string ty] 43) := hide (by rw [hW]; exact (RowIs.new w _ _).keep (bAl (Below.refl _ _) _))
    have RA : Hid (RowIs W (w.heap.size + 1) #[.int .i64 ax, .int .i64 an, .string at', .string ay] 31) := hide (by rw [hW]; have := RowIs.new (w.alloc (.cells #[.int .i64 3, .int .i64 x, .int .i64 n, .string t, .string y, .string ty] 43)) #[.int .i64 ax, .int .i64 an, .string at', .string ay] 31; simpa using this)
    have Y0 := hide (And.intro ((unhide RA).at (o := 0) (v := .int .i64 ax) rfl) (And.intro ((unhide RA).at (o := 1) (v := .int .i64 an) rfl) (And.intro ((unhide RA).at (o := 2) (v := .string at') rfl) (And.intro ((unhide RA).at (o := 3) (v := .string ay) rfl) (And.intro ((unhide RH).at (o := 1) (v := .int .i64 x) rfl) (And.intro ((unhide RH).at (o := 2) (v := .int .i64 n) rfl) (And.intro ((unhide RH).at (o := 3) (v := .string t) rfl) ((unhide RH).at (o := 4) (v := .string y) rfl))))))))
    have BW := hide bW
    have HW := hide hW.symm
    clear hW bW
    go_enter Tryz.func37, Tryz.ntmps37
    go_wp2_with fail
    rw [unhide HW]
    go_region_held3 (fun w' => w'.cell? ⟨w.heap.size + 1, 0, none⟩ = some (.int .i64 ax) ∧ w'.cell? ⟨w.heap.size + 1, 1, none⟩ = some (.int .i64 an) ∧ w'.cell? ⟨w.heap.size + 1, 2, none⟩ = some (.string at') ∧ w'.cell? ⟨w.heap.size + 1, 3, none⟩ = some (.string ay) ∧ w'.cell? ⟨w.heap.size, 1, none⟩ = some (.int .i64 x) ∧ w'.cell? ⟨w.heap.size, 2, none⟩ = some (.int .i64 n) ∧ w'.cell? ⟨w.heap.size, 3, none⟩ = some (.string t) ∧ w'.cell? ⟨w.heap.size, 4, none⟩ = some (.string y))
      (first | exact unhide Y0 | exact unhide Y1 | exact unhide Y2)
      (first
        | (go_at_call 23; refine (unhide q1 _ (unhide BW).drew).mono ?_; rintro e w1 ⟨⟨v, L, rr, rfl, hL, hS, hO⟩, hb1⟩; replace hb1 := undrew hb1; obtain ⟨va, vc, ev⟩ := own_sl hO; subst ev; have MEM := hide (fun z => (hS.mem z).trans (hL z)); have OW := hide hO; have RH1 := hide ((unhide RH).keep hb1); have RA1 := hide ((unhide RA).keep hb1); have Y1 := hide (And.intro ((unhide RA1).at (o := 0) (v := .int .i64 ax) rfl) (And.intro ((unhide RA1).at (o := 1) (v := .int .i64 an) rfl) (And.intro ((unhide RA1).at (o := 2) (v := .string at') rfl) (And.intro ((unhide RA1).at (o := 3) (v := .string ay) rfl) (And.intro ((unhide RH1).at (o := 1) (v := .int .i64 x) rfl) (And.intro ((unhide RH1).at (o := 2) (v := .int .i64 n) rfl) (And.intro ((unhide RH1).at (o := 3) (v := .string t) rfl) ((unhide RH1).at (o := 4) (v := .string y) rfl)))))))); have B1 := hide (bTr (unhide BW) hb1); have LR : Hid (rr.length ≤ maxLen) := hide (by rcases hO.2 with h | ⟨_, _, _, h, _, _, h2, h3, _⟩; (· rw [h.2]; exact Nat.zero_le _); (· omega)); clear hL hS hO hb1)
        | (go_at_call 47; refine (l12Has_n ⟨va, rr.length, vc⟩ rr ⟨x, n, t, y⟩ _ (unhide LR) (SqA.of (sla_own (unhide OW)))).mono ?_; rintro e w2 ⟨⟨b, rfl, hb⟩, hb2⟩; have HB := hide (hb.trans (unhide MEM _)); have Y2 := hide (And.intro (((unhide RA1).keep hb2).at (o := 0) (v := .int .i64 ax) rfl) (And.intro (((unhide RA1).keep hb2).at (o := 1) (v := .int .i64 an) rfl) (And.intro (((unhide RA1).keep hb2).at (o := 2) (v := .string at') rfl) (And.intro (((unhide RA1).keep hb2).at (o := 3) (v := .string ay) rfl) (And.intro (((unhide RH1).keep hb2).at (o := 1) (v := .int .i64 x) rfl) (And.intro (((unhide RH1).keep hb2).at (o := 2) (v := .int .i64 n) rfl) (And.intro (((unhide RH1).keep hb2).at (o := 3) (v := .string t) rfl) (((unhide RH1).keep hb2).at (o := 4) (v := .string y) rfl)))))))); have B2 := hide (bTr (unhide B1) hb2); clear hb hb2))
    go_wp2_with fail
    go_ret
    exact ⟨retB (b := b) (unhide HB), unhide B2⟩
  have d3 : (k == 3) = false := by simpa using k3
  rw [if_neg k3]
  clear q1
  by_cases k4 : k = 4
  · subst k4
    clear k1 k2 k3 d1 d2 d3
    rw [if_pos rfl]
    by_cases e : ay = ty
    case neg =>
      have d : (ByteArray.toList ty == ByteArray.toList ay) = false := str_neN (fun h => e h.symm)
      have no : Hid (¬ ay = ty) := hide e
      clear e
      go_enter Tryz.func37, Tryz.ntmps37
      go_wp2_with fail
      go_ret
      exact ⟨retB (b := false) ⟨fun h => (by cases h), fun h => absurd h (unhide no)⟩, bAl (bAl (Below.refl _ _) _) _⟩
    subst e
    go_enter Tryz.func37, Tryz.ntmps37
    go_wp2_with fail
    go_ret
    exact ⟨retB (b := true) (by first | exact ⟨fun _ => rfl, fun _ => rfl⟩ | simp), bAl (bAl (Below.refl _ _) _) _⟩
  have d4 : (k == 4) = false := by simpa using k4
  rw [if_neg k4]
  clear k1 k2 k3 k4
  go_enter Tryz.func37, Tryz.ntmps37
  go_wp2_with fail
  go_ret
  exact ⟨retB (b := false) (by simp), bAl (bAl (Below.refl _ _) _) _⟩
set_option maxRecDepth 20000 in
set_option maxHeartbeats 4000000 in
theorem sHeadMatches_n (hd : Hd) (lt : List ThingE) (h : HeadT) (a : AtomT) (w : World) (hn : ∀ e ∈ lt, ThingN e.t) (hl : lt.length ≤ maxLen) (hs : SqThingE w 0 hd lt) (ho : h.Ok) (hao : a.Ok) :
    Calls Tryz.prog 17 #[.slice hd.a hd.len hd.cap, hAgg h, encA a] w fun r w' => RetB r (HMs (lt.map (·.t)) h a) ∧ Below w.heap.size w w' := by
  obtain ⟨W, hW⟩ : ∃ W, W = (w.alloc (.cells #[.int .i64 h.k, .int .i64 h.x, .int .i64 h.n, .string h.t, .string h.y, .string h.ty] 43)).alloc (.cells #[.int .i64 a.x, .int .i64 a.n, .string a.t, .string a.y] 31) := ⟨_, rfl⟩
  have bW : Below w.heap.size w W := by rw [hW]; exact bAl (bAl (Below.refl _ _) _) _
  have RH : Hid (RowIs W w.heap.size #[.int .i64 h.k, .int .i64 h.x, .int .i64 h.n, .string h.t, .string h.y, .string h.ty] 43) := hide (by rw [hW]; exact (RowIs.new w _ _).keep (bAl (Below.refl _ _) _))
  have RA : Hid (RowIs W (w.heap.size + 1) #[.int .i64 a.x, .int .i64 a.n, .string a.t, .string a.y] 31) := hide (by rw [hW]; have := RowIs.new (w.alloc (.cells #[.int .i64 h.k, .int .i64 h.x, .int .i64 h.n, .string h.t, .string h.y, .string h.ty] 43)) #[.int .i64 a.x, .int .i64 a.n, .string a.t, .string a.y] 31; simpa using this)
  have q1 := hide (fun (w' : World) (hb : Below W.heap.size W w') => sGoodThings_n hd (lt.map (·.t)) w' (fun z hz => by obtain ⟨e, he, rfl⟩ := List.mem_map.1 hz; exact hn e he) (by simpa using hl) ⟨lt, rfl, hs.keep (bTr bW hb)⟩)
  have q2 : Hid (∀ (w' : World), Below W.heap.size W w' → Calls Tryz.prog 36 #[hAgg h, .bool true] w' fun e w'' => RetB e (HeadP h) ∧ Below w'.heap.size w' w'') := hide (fun w' _ => (l10GoodHead_any h true w' ho).mono fun e w'' ⟨h1, h2⟩ => ⟨by obtain ⟨b, e1, e2⟩ := h1; exact ⟨b, e1, e2.trans ⟨fun g => g.1, fun g => ⟨g, .inl rfl⟩⟩⟩, h2⟩)
  have q3 := hide (fun (w' : World) (_ : Below W.heap.size W w') => l11Ref_any a w' hao)
  have q4' : Hid (GThs (lt.map (·.t)) → ∀ (w' : World), Below W.heap.size W w' → Calls Tryz.prog 37 #[.slice hd.a hd.len hd.cap, hAgg h, encA a] w' fun e w'' => RetB e (HMat (parL (lt.map (·.t))) h a) ∧ Below w'.heap.size w' w'') := hide (fun g w' hb => l12Matches_n hd lt h a w' g hn hl (hs.keep (bTr bW hb)) hao)
  have BW := hide bW
  have BX := hide (Below.refl W.heap.size W)
  have HW := hide hW.symm
  have D : Hid (HMs (lt.map (·.t)) h a ↔ (GThs (lt.map (·.t)) ∧ HeadP h ∧ refA a = true ∧ HMat (parL (lt.map (·.t))) h a)) := hide Iff.rfl
  clear hn hl hs ho hao hW bW
  unfold encA at q4' ⊢
  have c0 := (unhide RH).at (o := 0) (v := .int .i64 h.k) rfl
  have c1 := (unhide RH).at (o := 1) (v := .int .i64 h.x) rfl
  have c2 := (unhide RH).at (o := 2) (v := .int .i64 h.n) rfl
  have c3 := (unhide RH).at (o := 3) (v := .string h.t) rfl
  have c4 := (unhide RH).at (o := 4) (v := .string h.y) rfl
  have c5 := (unhide RH).at (o := 5) (v := .string h.ty) rfl
  have d0 := (unhide RA).at (o := 0) (v := .int .i64 a.x) rfl
  have d1 := (unhide RA).at (o := 1) (v := .int .i64 a.n) rfl
  have d2 := (unhide RA).at (o := 2) (v := .string a.t) rfl
  have d3 := (unhide RA).at (o := 3) (v := .string a.y) rfl
  go_enter Tryz.func17, Tryz.ntmps17
  go_wp2_with fail
  rw [unhide HW]
  refine (unhide q1 _ (unhide BX)).mono ?_
  rintro r w1 ⟨⟨v, rfl, hv⟩, hb⟩
  replace RH := hide ((unhide RH).keep hb)
  replace RA := hide ((unhide RA).keep hb)
  replace BX := hide (bTr (unhide BX) hb)
  have H1 := hide hv
  clear hb hv q1 c0 c1 c2 c3 c4 c5 d0 d1 d2 d3
  cases v
  case false =>
    have no : Hid (¬ HMs (lt.map (·.t)) h a) := hide (fun g => by have := (unhide H1).2 ((unhide D).1 g).1; cases this)
    go_wp2_with fail
    go_ret
    exact ⟨retB (b := false) ⟨fun h => (by cases h), fun h => absurd h (unhide no)⟩, bTr (unhide BW) (unhide BX)⟩
  replace H1 := hide ((unhide H1).1 rfl)
  have c0 := (unhide RH).at (o := 0) (v := .int .i64 h.k) rfl
  have c1 := (unhide RH).at (o := 1) (v := .int .i64 h.x) rfl
  have c2 := (unhide RH).at (o := 2) (v := .int .i64 h.n) rfl
  have c3 := (unhide RH).at (o := 3) (v := .string h.t) rfl
  have c4 := (unhide RH).at (o := 4) (v := .string h.y) rfl
  have c5 := (unhide RH).at (o := 5) (v := .string h.ty) rfl
  have d0 := (unhide RA).at (o := 0) (v := .int .i64 a.x) rfl
  have d1 := (unhide RA).at (o := 1) (v := .int .i64 a.n) rfl
  have d2 := (unhide RA).at (o := 2) (v := .string a.t) rfl
  have d3 := (unhide RA).at (o := 3) (v := .string a.y) rfl

  go_wp2_with fail
  refine (unhide q2 _ (unhide BX)).mono ?_
  rintro r w2 ⟨⟨v, rfl, hv⟩, hb⟩
  replace RH := hide ((unhide RH).keep hb)
  replace RA := hide ((unhide RA).keep hb)
  replace BX := hide (bTr (unhide BX) hb)
  have H2 := hide hv
  clear hb hv q2 c0 c1 c2 c3 c4 c5 d0 d1 d2 d3
  cases v
  case false =>
    have no : Hid (¬ HMs (lt.map (·.t)) h a) := hide (fun g => by have := (unhide H2).2 ((unhide D).1 g).2.1; cases this)
    go_wp2_with fail
    go_ret
    exact ⟨retB (b := false) ⟨fun h => (by cases h), fun h => absurd h (unhide no)⟩, bTr (unhide BW) (unhide BX)⟩
  replace H2 := hide ((unhide H2).1 rfl)
  have c0 := (unhide RH).at (o := 0) (v := .int .i64 h.k) rfl
  have c1 := (unhide RH).at (o := 1) (v := .int .i64 h.x) rfl
  have c2 := (unhide RH).at (o := 2) (v := .int .i64 h.n) rfl
  have c3 := (unhide RH).at (o := 3) (v := .string h.t) rfl
  have c4 := (unhide RH).at (o := 4) (v := .string h.y) rfl
  have c5 := (unhide RH).at (o := 5) (v := .string h.ty) rfl
  have d0 := (unhide RA).at (o := 0) (v := .int .i64 a.x) rfl
  have d1 := (unhide RA).at (o := 1) (v := .int .i64 a.n) rfl
  have d2 := (unhide RA).at (o := 2) (v := .string a.t) rfl
  have d3 := (unhide RA).at (o := 3) (v := .string a.y) rfl

  go_wp2_with fail
  refine (unhide q3 _ (unhide BX)).mono ?_
  rintro r w3 ⟨⟨v, rfl, hv⟩, hb⟩
  replace RH := hide ((unhide RH).keep hb)
  replace RA := hide ((unhide RA).keep hb)
  replace BX := hide (bTr (unhide BX) hb)
  have H3 := hide hv
  clear hb hv q3 c0 c1 c2 c3 c4 c5 d0 d1 d2 d3
  cases v
  case false =>
    have no : Hid (¬ HMs (lt.map (·.t)) h a) := hide (fun g => by have := (unhide H3).2 ((unhide D).1 g).2.2.1; cases this)
    go_wp2_with fail
    go_ret
    exact ⟨retB (b := false) ⟨fun h => (by cases h), fun h => absurd h (unhide no)⟩, bTr (unhide BW) (unhide BX)⟩
  replace H3 := hide ((unhide H3).1 rfl)
  have c0 := (unhide RH).at (o := 0) (v := .int .i64 h.k) rfl
  have c1 := (unhide RH).at (o := 1) (v := .int .i64 h.x) rfl
  have c2 := (unhide RH).at (o := 2) (v := .int .i64 h.n) rfl
  have c3 := (unhide RH).at (o := 3) (v := .string h.t) rfl
  have c4 := (unhide RH).at (o := 4) (v := .string h.y) rfl
  have c5 := (unhide RH).at (o := 5) (v := .string h.ty) rfl
  have d0 := (unhide RA).at (o := 0) (v := .int .i64 a.x) rfl
  have d1 := (unhide RA).at (o := 1) (v := .int .i64 a.n) rfl
  have d2 := (unhide RA).at (o := 2) (v := .string a.t) rfl
  have d3 := (unhide RA).at (o := 3) (v := .string a.y) rfl

  have q4 := hide (unhide q4' (unhide H1))
  clear q4'
  go_wp2_with fail
  refine (unhide q4 _ (unhide BX)).mono ?_
  rintro r w4 ⟨⟨v, rfl, hv⟩, hb⟩
  replace RH := hide ((unhide RH).keep hb)
  replace RA := hide ((unhide RA).keep hb)
  replace BX := hide (bTr (unhide BX) hb)
  have H4 := hide hv
  clear hb hv q4 c0 c1 c2 c3 c4 c5 d0 d1 d2 d3
  go_wp2_with fail
  go_ret
  exact ⟨retB (b := v) ((unhide H4).trans ⟨fun g => (unhide D).2 ⟨unhide H1, unhide H2, unhide H3, g⟩, fun g => ((unhide D).1 g).2.2.2⟩), bTr (unhide BW) (unhide BX)⟩
end Go.Proofs.YtpfekkhnjaopdaaGreat.V
