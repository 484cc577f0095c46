/- spec: GoodServer. -/
import Derived.Test.YtflabaknembioaaKVs
import Derived.Test.YtflabaknembioaaQText
import Derived.BigQuiet
namespace Go.Proofs.Ytflabaknembioaa.V
set_option linter.unusedSimpArgs false
set_option linter.unusedVariables false
set_option maxRecDepth 20000
open Go.RowKit

/-- Client i of the list is good and above the one ahead. -/
def ClAt (l : List ClientE) (i : Nat) : Prop := ∀ h : i < l.length, GCl l[i].t ∧ (0 < i → cmpT l[i - 1].t.f0.data.toList l[i].t.f0.data.toList < 0)
theorem server_iff (e : ServerE) (l : List ClientE) (hl : l.map (·.t) = e.t.f0) : GSv e.t ↔ ((∀ i, i < l.length → ClAt l i) ∧ l.length ≤ 20 ∧ e.t.f1.length ≤ 64 ∧ (1 ≤ e.t.f2 ∧ e.t.f2 ≤ 1000000) ∧ (1 ≤ e.t.f3 ∧ e.t.f3 ≤ 1000000)) := by
  have ll : l.length = e.t.f0.length := by rw [← hl]; simp
  constructor
  · rintro ⟨a, b, c, d, f, g⟩
    refine ⟨fun i hi _ => ⟨b _ (by rw [← hl]; exact List.mem_map_of_mem (List.getElem_mem hi)), fun h0 => ?_⟩, by omega, d, f, g⟩
    obtain ⟨j, rfl⟩ : ∃ j, i = j + 1 := ⟨i - 1, by omega⟩
    have := c j (by omega)
    simp only [← hl, List.getElem_map] at this
    exact this
  · rintro ⟨a, b, d, f, g⟩
    refine ⟨by omega, fun x hx => ?_, fun i h => ?_, d, f, g⟩
    · rw [← hl] at hx
      obtain ⟨y, hy, rfl⟩ := List.mem_map.1 hx
      obtain ⟨i, hi, rfl⟩ := List.getElem_of_mem hy
      exact (a i hi hi).1
    · have := (a (i + 1) (by omega) (by omega)).2 (by omega)
      simp only [← hl, List.getElem_map]
      exact this
set_option maxRecDepth 40000 in
set_option maxHeartbeats 16000000 in
theorem sGoodServer_n (e : ServerE) (w : World) (hn : ServerN e.t) (hm : ServerM w 0 e) :
    Calls Try.prog 5 #[.agg #[.slice e.h0.a e.h0.len e.h0.cap, .slice e.h1.a e.h1.len e.h1.cap, .int .i64 e.t.f2, .int .i64 e.t.f3]] w fun r w' => RetB r (GSv e.t) ∧ Below w.heap.size w w' := by
  obtain ⟨l, hl, st⟩ := hm.m0
  have D := hide (server_iff e l hl)
  have HTN : Hid (∀ e ∈ l, ClientN e.t) := hide (fun x hx => hn.o0 _ (by rw [← hl]; exact List.mem_map_of_mem hx))
  have LTM : l.length ≤ maxLen := by have := hn.l0; rw [← hl] at this; simpa using this
  have EK := hide hm.m1.1
  generalize GSv e.t = G at D ⊢
  obtain ⟨⟨xs, ks, sh, lo⟩, ⟨a0, n0, k0⟩, h1⟩ := e
  simp only at st D EK ⊢
  have HTL : Hid (n0 = l.length) := hide st.1
  have HT := hide st
  have R := hide (RowIs.new w #[.slice a0 n0 k0, .slice h1.a h1.len h1.cap, .int .i64 sh, .int .i64 lo] 30)
  have B := hide (bAl (Below.refl w.heap.size w) (.cells #[.slice a0 n0 k0, .slice h1.a h1.len h1.cap, .int .i64 sh, .int .i64 lo] 30))
  unfold maxLen at LTM
  have z0 : n0 ≤ 9223372036854775807 := by have := unhide HTL; omega
  have r0 := (unhide R).at (o := 0) (v := .slice a0 n0 k0) rfl
  clear st hl hn hm LTM
  go_enter Try.func5, Try.ntmps5
  go_wp2_with fail
  clear r0
  go_loopw [12] (fun i w' => ∃ k : Nat, k ≤ n0 ∧ i = .int .i64 k ∧ Hid (Below w.heap.size w w') ∧ Hid (RowIs w' w.heap.size #[.slice a0 n0 k0, .slice h1.a h1.len h1.cap, .int .i64 sh, .int .i64 lo] 30) ∧ Hid (∀ i, i < k → ClAt l i)) (fun i _ => n0 - (Go.RowKit.intOf i).toNat)
  case atStart => exact ⟨0, Nat.zero_le _, rfl, B, R, hide (fun i h => absurd h (Nat.not_lt_zero _))⟩
  case round =>
    clear B R
    obtain ⟨k, hk, rfl, B, R, hA⟩ := hrel
    by_cases hlt : k < n0
    case neg =>
      have D2 : Hid (G ↔ (l.length ≤ 20 ∧ ks.length ≤ 64 ∧ (1 ≤ sh ∧ sh ≤ 1000000) ∧ (1 ≤ lo ∧ lo ≤ 1000000))) := hide ((unhide D).trans ⟨fun h => h.2, fun h => ⟨fun i hi => unhide hA i (by have := unhide HTL; omega), h⟩⟩)
      have r0 := (unhide R).at (o := 0) (v := .slice a0 n0 k0) rfl
      have r1 := (unhide R).at (o := 1) (v := .slice h1.a h1.len h1.cap) rfl
      have r2 := (unhide R).at (o := 2) (v := .int .i64 sh) rfl
      have r3 := (unhide R).at (o := 3) (v := .int .i64 lo) rfl
      clear hA D HTN HT
      by_cases g0 : n0 ≤ 20
      case neg =>
        have no : Hid (¬ G) := hide (fun g => by have := ((unhide D2).1 g).1; have := unhide HTL; have := unhide EK; omega)
        have d : decide ((n0 : Int) ≤ 20) = false := decide_eq_false (by omega)
        clear D2 g0
        go_wp2_with fail
        go_ret
        exact ⟨retB (b := false) ⟨fun h => (by cases h), fun h => absurd h (unhide no)⟩, unhide B⟩
      have d0 : decide ((n0 : Int) ≤ 20) = true := decide_eq_true (by omega)
      by_cases g1 : h1.len ≤ 64
      case neg =>
        have no : Hid (¬ G) := hide (fun g => by have := ((unhide D2).1 g).2.1; have := unhide HTL; have := unhide EK; omega)
        have d : decide ((h1.len : Int) ≤ 64) = false := decide_eq_false (by omega)
        clear D2 g1
        go_wp2_with fail
        go_ret
        exact ⟨retB (b := false) ⟨fun h => (by cases h), fun h => absurd h (unhide no)⟩, unhide B⟩
      have d1 : decide ((h1.len : Int) ≤ 64) = true := decide_eq_true (by omega)
      by_cases g2 : 1 ≤ sh
      case neg =>
        have no : Hid (¬ G) := hide (fun g => by have := ((unhide D2).1 g).2.2.1.1; have := unhide HTL; have := unhide EK; omega)
        have d : decide (1 ≤ sh) = false := decide_eq_false (by omega)
        clear D2 g2
        go_wp2_with fail
        go_ret
        exact ⟨retB (b := false) ⟨fun h => (by cases h), fun h => absurd h (unhide no)⟩, unhide B⟩
      have d2 : decide (1 ≤ sh) = true := decide_eq_true (by omega)
      by_cases g3 : sh ≤ 1000000
      case neg =>
        have no : Hid (¬ G) := hide (fun g => by have := ((unhide D2).1 g).2.2.1.2; have := unhide HTL; have := unhide EK; omega)
        have d : decide (sh ≤ 1000000) = false := decide_eq_false (by omega)
        clear D2 g3
        go_wp2_with fail
        go_ret
        exact ⟨retB (b := false) ⟨fun h => (by cases h), fun h => absurd h (unhide no)⟩, unhide B⟩
      have d3 : decide (sh ≤ 1000000) = true := decide_eq_true (by omega)
      by_cases g4 : 1 ≤ lo
      case neg =>
        have no : Hid (¬ G) := hide (fun g => by have := ((unhide D2).1 g).2.2.2.1; have := unhide HTL; have := unhide EK; omega)
        have d : decide (1 ≤ lo) = false := decide_eq_false (by omega)
        clear D2 g4
        go_wp2_with fail
        go_ret
        exact ⟨retB (b := false) ⟨fun h => (by cases h), fun h => absurd h (unhide no)⟩, unhide B⟩
      have d4 : decide (1 ≤ lo) = true := decide_eq_true (by omega)
      by_cases g5 : lo ≤ 1000000
      case neg =>
        have no : Hid (¬ G) := hide (fun g => by have := ((unhide D2).1 g).2.2.2.2; have := unhide HTL; have := unhide EK; omega)
        have d : decide (lo ≤ 1000000) = false := decide_eq_false (by omega)
        clear D2 g5
        go_wp2_with fail
        go_ret
        exact ⟨retB (b := false) ⟨fun h => (by cases h), fun h => absurd h (unhide no)⟩, unhide B⟩
      have d5 : decide (lo ≤ 1000000) = true := decide_eq_true (by omega)
      have yes : Hid G := hide ((unhide D2).2 ⟨by have := unhide HTL; omega, by have := unhide EK; omega, ⟨g2, g3⟩, ⟨g4, g5⟩⟩)
      clear D2 g0 g1 g2 g3 g4 g5
      go_wp2_with fail
      go_ret
      exact ⟨retB (b := true) ⟨fun _ => unhide yes, fun _ => rfl⟩, unhide B⟩
    have hk' : k < l.length := by have := unhide HTL; omega
    obtain ⟨b, off, e0, hrow⟩ := ((unhide HT).keep (unhide B)).at hlt
    simp only at e0
    subst e0
    have RR := hide hrow
    have zk := hrow.z
    have c0 := hrow.c0 k hk'
    have c1 := hrow.c1 k hk'
    have c2 := hrow.c2 k hk'
    have c3 := hrow.c3 k hk'
    have c4 := hrow.c4 k hk'
    have hnk := unhide HTN _ (List.getElem_mem hk')
    have MM := (unhide HT).2.2 _ (List.getElem_mem hk')
    have M2 := hide MM.m2
    have M4 := hide MM.m4
    have EL1 := hide MM.m1.1
    have EL2 := hide MM.m2.1
    have EL4 := hide MM.m4.1
    have O2 := hide hnk.o2
    have o0 := hide hnk.o0
    have NO : Hid (¬ ((idB l[k].t.f0 = true ∧ (l[k].t.f1.length = 0 ∨ l[k].t.f1.length = 16) ∧ l[k].t.f2.length ≤ 5 ∧ GSc l[k].t.f3 ∧ l[k].t.f4.length ≤ 4) ∧ (0 < k → cmpT l[k - 1].t.f0.data.toList l[k].t.f0.data.toList < 0)) → ¬ G) := hide (fun h g => h (by have x := ((unhide D).1 g).1 k hk' hk'; exact ⟨⟨x.1.id, x.1.sec, x.1.rl, x.1.sc, x.1.kl⟩, x.2⟩))
    have NOP : Hid (G → ∀ p ∈ l[k].t.f2, GRd p) := hide (fun g => (((unhide D).1 g).1 k hk' hk').1.rd)
    have NOK : Hid (G → ∀ p ∈ l[k].t.f4, GKd p) := hide (fun g => (((unhide D).1 g).1 k hk' hk').1.kd)
    have STEP : Hid (((idB l[k].t.f0 = true ∧ (l[k].t.f1.length = 0 ∨ l[k].t.f1.length = 16) ∧ l[k].t.f2.length ≤ 5 ∧ GSc l[k].t.f3 ∧ l[k].t.f4.length ≤ 4) ∧ (0 < k → cmpT l[k - 1].t.f0.data.toList l[k].t.f0.data.toList < 0)) → (∀ p ∈ l[k].t.f2, GRd p) → (∀ p ∈ l[k].t.f4, GKd p) → ∀ i, i < k + 1 → ClAt l i) := hide (fun g gp gk i h1 => by
      rcases Nat.lt_or_ge i k with h2 | h2
      · exact unhide hA i h2
      · obtain rfl : i = k := by omega
        exact fun _ => ⟨⟨g.1.1, g.1.2.1, g.1.2.2.1, gp, g.1.2.2.2.1, g.1.2.2.2.2, gk⟩, g.2⟩)
    obtain ⟨W, hW⟩ : ∃ W, W = wr.alloc (.cells #[.string l[k].t.f0, .slice l[k].h1.a l[k].h1.len l[k].h1.cap, .slice l[k].h2.a l[k].h2.len l[k].h2.cap, .slice l[k].h3.a l[k].h3.len l[k].h3.cap, .slice l[k].h4.a l[k].h4.len l[k].h4.cap] 39) := ⟨_, rfl⟩
    have bW : Below wr.heap.size wr W := by rw [hW]; exact bAl (Below.refl _ _) _
    have qW : RowIs W wr.heap.size #[.string l[k].t.f0, .slice l[k].h1.a l[k].h1.len l[k].h1.cap, .slice l[k].h2.a l[k].h2.len l[k].h2.cap, .slice l[k].h3.a l[k].h3.len l[k].h3.cap, .slice l[k].h4.a l[k].h4.len l[k].h4.cap] 39 := by rw [hW]; exact RowIs.new wr _ _
    have HW := hide hW
    have ne : Nonempty (Kept W) := ⟨⟨W, Below.refl _ _⟩⟩
    have qn := hide (fun (q : Kept W) => l7Id_any l[k].t.f0 (unhide o0) q.w)
    have qs := hide (fun (w' : World) (hb : Below w.heap.size w w') => l18Scopes_n l[k].h3 l[k].t.f3 w' hnk.l3 hnk.o3 (MM.m3.keep hb))
    have x0 := kept_cell (W := W) (p := ⟨wr.heap.size, 0, none⟩) qW.lt (qW.at (o := 0) (v := .string l[k].t.f0) rfl)
    have x1 := kept_cell (W := W) (p := ⟨wr.heap.size, 1, none⟩) qW.lt (qW.at (o := 1) (v := .slice l[k].h1.a l[k].h1.len l[k].h1.cap) rfl)
    have x2 := kept_cell (W := W) (p := ⟨wr.heap.size, 2, none⟩) qW.lt (qW.at (o := 2) (v := .slice l[k].h2.a l[k].h2.len l[k].h2.cap) rfl)
    have x3 := kept_cell (W := W) (p := ⟨wr.heap.size, 3, none⟩) qW.lt (qW.at (o := 3) (v := .slice l[k].h3.a l[k].h3.len l[k].h3.cap) rfl)
    have x4 := kept_cell (W := W) (p := ⟨wr.heap.size, 4, none⟩) qW.lt (qW.at (o := 4) (v := .slice l[k].h4.a l[k].h4.len l[k].h4.cap) rfl)
    have rw_ := (unhide R).keep bW
    have y0 := kept_cell (W := W) (p := ⟨w.heap.size, 0, none⟩) rw_.lt (rw_.at (o := 0) (v := .slice (some ⟨b, off, none⟩) n0 k0) rfl)
    have RW := hide rw_
    have QW := hide qW
    have bk := hide (bTr (unhide B) bW)
    clear hW rw_ qW hA hrow hnk MM B R D
    generalize GSc l[k].t.f3 = PS at NO STEP qs
    by_cases hk0 : k = 0
    · subst hk0
      simp only [Nat.zero_mul, Nat.add_zero] at c0 c1 c2 c3 c4
      clear RR
      generalize l[0] = A at *
      cases g0 : idB A.t.f0
      · have d := g0
        have no := hide (unhide NO (fun h => by have := h.1.1; rw [g0] at this; cases this))
        rw [g0] at qn
        clear g0 d NO STEP
        go_wp2_with fail
        rw [← unhide HW]
        clear HW c0 c1 c2 c3 c4
        refine wp_region_kept (by kernel_rfl) (by kernel_rfl) ?_
        repeat (first
          | go_big_quiet_step (first | (go_at_call 11; with_reducible exact kept_call (unhide qn _)))
          | quiet_step (first | (go_at_call 11; with_reducible exact kept_call (unhide qn _))))
        refine wpQuiet_nil ?_
        rintro _ ⟨q, rfl⟩
        go_wp2_with fail
        go_ret
        exact ⟨retB (b := false) ⟨fun h => (by cases h), fun h => absurd h (unhide no)⟩, bTr (unhide bk) q.h⟩
      rw [g0] at qn
      by_cases g1 : A.t.f1.length = 0 ∨ A.t.f1.length = 16
      case neg =>
        have da : ((A.h1.len : Int) != 0) = true := by have e1 := unhide EL1; simp; omega
        have db : ((A.h1.len : Int) != 16) = true := by have e1 := unhide EL1; simp; omega
        have no := hide (unhide NO (fun h => g1 h.1.2.1))
        clear g1 NO STEP
        go_wp2_with fail
        rw [← unhide HW]
        clear HW c0 c1 c2 c3 c4
        refine wp_region_kept (by kernel_rfl) (by kernel_rfl) ?_
        repeat (first
          | go_big_quiet_step (first | (go_at_call 11; with_reducible exact kept_call (unhide qn _)))
          | quiet_step (first | (go_at_call 11; with_reducible exact kept_call (unhide qn _))))
        refine wpQuiet_nil ?_
        rintro _ ⟨q, rfl⟩
        go_wp2_with fail
        go_ret
        exact ⟨retB (b := false) ⟨fun h => (by cases h), fun h => absurd h (unhide no)⟩, bTr (unhide bk) q.h⟩
      have d01 : ((A.h1.len : Int) != 0) = false ∨ (((A.h1.len : Int) != 0) = true ∧ ((A.h1.len : Int) != 16) = false) := by
        have e1 := unhide EL1
        rcases g1 with h | h
        · left; simp; omega
        · right; constructor
          · simp; omega
          · simp; omega
      rcases d01 with da | ⟨da, db⟩
      all_goals
        by_cases g2 : A.t.f2.length ≤ 5
        case neg =>
          have d : decide ((5 : Int) < (A.h2.len : Int)) = true := decide_eq_true (by have e1 := unhide EL2; omega)
          have no := hide (unhide NO (fun h => g2 h.1.2.2.1))
          clear g2 NO STEP
          go_wp2_with fail
          rw [← unhide HW]
          clear HW c0 c1 c2 c3 c4
          refine wp_region_kept (by kernel_rfl) (by kernel_rfl) ?_
          repeat (first
            | go_big_quiet_step (first | (go_at_call 11; with_reducible exact kept_call (unhide qn _)))
            | quiet_step (first | (go_at_call 11; with_reducible exact kept_call (unhide qn _))))
          refine wpQuiet_nil ?_
          rintro _ ⟨q, rfl⟩
          go_wp2_with fail
          go_ret
          exact ⟨retB (b := false) ⟨fun h => (by cases h), fun h => absurd h (unhide no)⟩, bTr (unhide bk) q.h⟩
        have d2 : decide ((5 : Int) < (A.h2.len : Int)) = false := by have e1 := unhide EL2; simp; omega
        by_cases g3 : PS
        case neg =>
          have p3 := hide (fun (q : Kept W) => callsF (unhide qs q.w (bTr (unhide bk) q.h)) g3)
          have no := hide (unhide NO (fun h => g3 h.1.2.2.2.1))
          clear g3 NO STEP
          go_wp2_with fail
          rw [← unhide HW]
          clear HW c0 c1 c2 c3 c4
          refine wp_region_kept (by kernel_rfl) (by kernel_rfl) ?_
          repeat (first
            | go_big_quiet_step (first | (go_at_call 11; with_reducible exact kept_call (unhide qn _)) | (go_at_call 13; with_reducible exact kept_call (unhide p3 _)))
            | quiet_step (first | (go_at_call 11; with_reducible exact kept_call (unhide qn _)) | (go_at_call 13; with_reducible exact kept_call (unhide p3 _))))
          refine wpQuiet_nil ?_
          rintro _ ⟨q, rfl⟩
          go_wp2_with fail
          go_ret
          exact ⟨retB (b := false) ⟨fun h => (by cases h), fun h => absurd h (unhide no)⟩, bTr (unhide bk) q.h⟩
        have p3 := hide (fun (q : Kept W) => callsT (unhide qs q.w (bTr (unhide bk) q.h)) g3)
        by_cases g4 : A.t.f4.length ≤ 4
        case neg =>
          have d : decide ((4 : Int) < (A.h4.len : Int)) = true := decide_eq_true (by have e1 := unhide EL4; omega)
          have no := hide (unhide NO (fun h => g4 h.1.2.2.2.2))
          clear g4 NO STEP
          go_wp2_with fail
          rw [← unhide HW]
          clear HW c0 c1 c2 c3 c4
          refine wp_region_kept (by kernel_rfl) (by kernel_rfl) ?_
          repeat (first
            | go_big_quiet_step (first | (go_at_call 11; with_reducible exact kept_call (unhide qn _)) | (go_at_call 13; with_reducible exact kept_call (unhide p3 _)))
            | quiet_step (first | (go_at_call 11; with_reducible exact kept_call (unhide qn _)) | (go_at_call 13; with_reducible exact kept_call (unhide p3 _))))
          refine wpQuiet_nil ?_
          rintro _ ⟨q, rfl⟩
          go_wp2_with fail
          go_ret
          exact ⟨retB (b := false) ⟨fun h => (by cases h), fun h => absurd h (unhide no)⟩, bTr (unhide bk) q.h⟩
        have d4 : decide ((4 : Int) < (A.h4.len : Int)) = false := by have e1 := unhide EL4; simp; omega
        have S := hide (unhide STEP ⟨⟨g0, g1, g2, g3, g4⟩, fun h => absurd h (Nat.lt_irrefl _)⟩)
        have L5 : A.h2.len ≤ 5 := by have e1 := unhide EL2; omega
        have L4 : A.h4.len ≤ 4 := by have e1 := unhide EL4; omega
        clear NO STEP g0 g1 g2 g3 g4
        go_wp2_with fail
        rw [← unhide HW]
        clear HW c0 c1 c2 c3 c4
        refine wp_region_kept (by kernel_rfl) (by kernel_rfl) ?_
        repeat (first
          | go_big_quiet_step (first | (go_at_call 11; with_reducible exact kept_call (unhide qn _)) | (go_at_call 13; with_reducible exact kept_call (unhide p3 _)))
          | quiet_step (first | (go_at_call 11; with_reducible exact kept_call (unhide qn _)) | (go_at_call 13; with_reducible exact kept_call (unhide p3 _))))
        refine wpQuiet_nil ?_
        rintro _ ⟨q, rfl⟩
        have BE := hide (bTr (unhide bk) q.h)
        have RE := hide ((unhide RW).keep q.h)
        have CEx := hide ((unhide QW).keep q.h)
        have X2 := x2 q
        clear x0 x1 x2 x3 x4 y0 bk RW QW qn qs 
        go_wp2_with fail
        clear X2
        have hz : ((0 : Nat) : Int) = 0 := rfl
        try rw [hz]
        clear hz
        have dz : decide ((0 : Int) < (n0 : Int)) = true := decide_eq_true (by omega)
        try rw [dz]
        clear dz
        go_loopw [71] (fun i w' => ∃ m : Nat, m ≤ A.h2.len ∧ i = .int .i64 m ∧ Hid (Below w.heap.size w w') ∧ Hid (RowIs w' w.heap.size #[.slice (some ⟨b, off, none⟩) n0 k0, .slice h1.a h1.len h1.cap, .int .i64 sh, .int .i64 lo] 30) ∧ Hid (RowIs w' wr.heap.size #[.string A.t.f0, .slice A.h1.a A.h1.len A.h1.cap, .slice A.h2.a A.h2.len A.h2.cap, .slice A.h3.a A.h3.len A.h3.cap, .slice A.h4.a A.h4.len A.h4.cap] 39) ∧ Hid (∀ i (h : i < A.t.f2.length), i < m → GRd A.t.f2[i])) (fun i _ => A.h2.len - (Go.RowKit.intOf i).toNat)
        case atStart => exact ⟨0, Nat.zero_le _, rfl, BE, RE, CEx, hide (fun i _ h => absurd h (Nat.not_lt_zero _))⟩
        case round =>
          clear BE RE CEx
          obtain ⟨m, hm, rfl, B, R, CX, hP⟩ := hrel
          by_cases hm2 : m < A.h2.len
          case neg =>
            have S2 := hide (unhide S (fun p hp => by
              obtain ⟨i, hi, rfl⟩ := List.getElem_of_mem hp
              exact unhide hP i hi (by have := unhide EL2; omega)))
            have X4 := (unhide CX).at (o := 4) (v := .slice A.h4.a A.h4.len A.h4.cap) rfl
            clear hP S CX
            go_wp2_with fail
            clear X4
            try rw [decide_eq_false hm2]
            go_loopw [92] (fun i w' => ∃ m : Nat, m ≤ A.h4.len ∧ i = .int .i64 m ∧ Hid (Below w.heap.size w w') ∧ Hid (RowIs w' w.heap.size #[.slice (some ⟨b, off, none⟩) n0 k0, .slice h1.a h1.len h1.cap, .int .i64 sh, .int .i64 lo] 30) ∧ Hid (∀ i (h : i < A.t.f4.length), i < m → GKd A.t.f4[i])) (fun i _ => A.h4.len - (Go.RowKit.intOf i).toNat)
            case atStart => exact ⟨0, Nat.zero_le _, rfl, B, R, hide (fun i _ h => absurd h (Nat.not_lt_zero _))⟩
            case round =>
              clear B R
              obtain ⟨m', hm', rfl, B, R, hP⟩ := hrel
              by_cases hm3 : m' < A.h4.len
              case neg =>
                have S4 := hide (unhide S2 (fun p hp => by
                  obtain ⟨i, hi, rfl⟩ := List.getElem_of_mem hp
                  exact unhide hP i hi (by have := unhide EL4; omega)))
                clear hP S2
                go_wp2_with fail
                exact ⟨⟨0 + 1, by omega, by go_num, B, R, S4⟩, by simp [Go.RowKit.intOf]; omega⟩
              have hm4 : m' < A.t.f4.length := by have := unhide EL4; omega
              obtain ⟨bp, offp, ep, rowp⟩ := ((unhide M4).keep (unhide B)).sl.at hm3
              have n0' := rowp.c m' hm4
              have NOM : Hid (¬ GKd A.t.f4[m'] → ¬ G) := hide (fun h g => h (unhide NOK g _ (List.getElem_mem hm4)))
              have STM : Hid (GKd A.t.f4[m'] → ∀ i (h : i < A.t.f4.length), i < m' + 1 → GKd A.t.f4[i]) := hide (fun g i hi h1 => by
                rcases Nat.lt_or_ge i m' with h2 | h2
                · exact unhide hP i hi h2
                · obtain rfl : i = m' := by omega
                  exact g)
              clear rowp hP
              generalize A.t.f4[m'] = p at n0' NOM STM
              generalize A.h4.a = ab at ep ⊢
              subst ep
              by_cases hg : GKd p
              case neg =>
                have no := hide (unhide NOM hg)
                have dd : p < 1 ∨ (¬ p < 1 ∧ 4 < p) := by unfold GKd at hg; omega
                clear NOM STM hg
                rcases dd with d | ⟨d, d2⟩
                · have d' : decide (p < 1) = true := decide_eq_true d
                  clear d
                  go_wp2_with fail
                  go_ret
                  exact ⟨retB (b := false) ⟨fun h => (by cases h), fun h => absurd h (unhide no)⟩, unhide B⟩
                · have d' : decide (p < 1) = false := decide_eq_false d
                  have d3 : decide (4 < p) = true := decide_eq_true d2
                  clear d d2
                  go_wp2_with fail
                  go_ret
                  exact ⟨retB (b := false) ⟨fun h => (by cases h), fun h => absurd h (unhide no)⟩, unhide B⟩
              have S3 := hide (unhide STM hg)
              have d1 : decide (p < 1) = false := decide_eq_false (by unfold GKd at hg; omega)
              have d3 : decide (4 < p) = false := decide_eq_false (by unfold GKd at hg; omega)
              clear NOM STM hg
              go_wp2_with fail
              exact ⟨⟨m' + 1, by omega, by go_num, B, R, S3⟩, by simp [Go.RowKit.intOf]; omega⟩
          have hm' : m < A.t.f2.length := by have := unhide EL2; omega
          obtain ⟨bp, offp, ep, rowp⟩ := ((unhide M2).keep (unhide B)).sl.at hm2
          have n0' := rowp.c m hm'
          have qp := hide (fun w => l1Printed_any A.t.f2[m] (unhide O2 _ (List.getElem_mem hm')) w)
          have NOM : Hid (¬ GRd A.t.f2[m] → ¬ G) := hide (fun h g => h (unhide NOP g _ (List.getElem_mem hm')))
          have STM : Hid (GRd A.t.f2[m] → ∀ i (h : i < A.t.f2.length), i < m + 1 → GRd A.t.f2[i]) := hide (fun g i hi h1 => by
            rcases Nat.lt_or_ge i m with h2 | h2
            · exact unhide hP i hi h2
            · obtain rfl : i = m := by omega
              exact g)
          have Osz := unhide O2 _ (List.getElem_mem hm')
          unfold maxLen at Osz
          clear rowp hP
          generalize A.t.f2[m] = p at n0' qp NOM STM Osz
          generalize A.h2.a = ab at ep CX ⊢
          subst ep
          have GE : Hid (GRd p ↔ (1 ≤ p.size ∧ p.size ≤ 200 ∧ textL p = true)) := hide Iff.rfl
          generalize GRd p = GP at NOM STM GE
          by_cases h1 : 1 ≤ p.size
          case neg =>
            have no := hide (unhide NOM (fun h => h1 ((unhide GE).1 h).1))
            have d : decide ((p.size : Int) < 1) = true := decide_eq_true (by omega)
            clear NOM STM GE qp h1
            go_wp2_with fail
            go_ret
            exact ⟨retB (b := false) ⟨fun h => (by cases h), fun h => absurd h (unhide no)⟩, unhide B⟩
          have d1 : decide ((p.size : Int) < 1) = false := decide_eq_false (by omega)
          by_cases h2 : p.size ≤ 200
          case neg =>
            have no := hide (unhide NOM (fun h => h2 ((unhide GE).1 h).2.1))
            have d : decide ((200 : Int) < (p.size : Int)) = true := decide_eq_true (by omega)
            clear NOM STM GE qp h1 h2
            go_wp2_with fail
            go_ret
            exact ⟨retB (b := false) ⟨fun h => (by cases h), fun h => absurd h (unhide no)⟩, unhide B⟩
          have d2 : decide ((200 : Int) < (p.size : Int)) = false := decide_eq_false (by omega)
          have GE2 : Hid (GP ↔ textL p = true) := hide ((unhide GE).trans ⟨fun h => h.2.2, fun h => ⟨h1, h2, h⟩⟩)
          generalize textL p = tp at GE2 qp
          clear GE h1 h2
          cases tp
          · have no := hide (unhide NOM (fun h => by have := (unhide GE2).1 h; cases this))
            clear NOM STM GE2
            go_wp2_with (go_at_call 14; refine (unhide qp _).mono ?_; rintro r w4 ⟨rfl, rfl⟩)
            go_ret
            exact ⟨retB (b := false) ⟨fun h => (by cases h), fun h => absurd h (unhide no)⟩, unhide B⟩
          · have S3 := hide (unhide STM ((unhide GE2).2 (by trivial)))
            clear NOM STM GE2
            go_wp2_with (go_at_call 14; refine (unhide qp _).mono ?_; rintro r w4 ⟨rfl, rfl⟩)
            exact ⟨⟨m + 1, by omega, by go_num, B, R, CX, S3⟩, by simp [Go.RowKit.intOf]; omega⟩
    · obtain ⟨j, rfl⟩ : ∃ j, k = j + 1 := ⟨k - 1, by omega⟩
      have hj : j < l.length := by omega
      have rj := (unhide RR).fr (Fr.below bW 0) (Nat.zero_le _)
      have zj : b < W.heap.size := Nat.lt_of_lt_of_le zk bW.size
      have t0 := kept_cell zj (rj.c0 j hj)
      have qc := hide (fun (q : Kept W) => cmpText_any l[j].t.f0 l[j + 1].t.f0 q.w (unhide HTN _ (List.getElem_mem hj)).o0)
      have dj : decide (0 < (j : Int) + 1) = true := decide_eq_true (by omega)
      have ej : IntKind.i64.wrap ((j : Int) + 1 - 1) = (j : Int) := by rw [IntKind.wrap_i64]; omega
      have i0 : (0 : Int) ≤ (j : Int) := by omega
      have i1 : (j : Int) < (n0 : Int) := by omega
      simp only [Nat.add_sub_cancel] at NO STEP
      clear rj RR
      generalize cmpT l[j].t.f0.data.toList l[j + 1].t.f0.data.toList = cc at *
      generalize l[j + 1] = A at *
      generalize l[j] = Pv at *
      cases g0 : idB A.t.f0
      · have d := g0
        have no := hide (unhide NO (fun h => by have := h.1.1; rw [g0] at this; cases this))
        rw [g0] at qn
        clear g0 d NO STEP
        go_wp2_with fail
        rw [← unhide HW]
        clear HW c0 c1 c2 c3 c4
        refine wp_region_kept (by kernel_rfl) (by kernel_rfl) ?_
        repeat (first
          | go_big_quiet_step (first | (go_at_call 11; with_reducible exact kept_call (unhide qn _)))
          | quiet_step (first | (go_at_call 11; with_reducible exact kept_call (unhide qn _))))
        refine wpQuiet_nil ?_
        rintro _ ⟨q, rfl⟩
        go_wp2_with fail
        go_ret
        exact ⟨retB (b := false) ⟨fun h => (by cases h), fun h => absurd h (unhide no)⟩, bTr (unhide bk) q.h⟩
      rw [g0] at qn
      by_cases hc : cc < 0
      case neg =>
        have dc : decide (0 ≤ cc) = true := by simp; omega
        have no := hide (unhide NO (fun h => hc (h.2 (Nat.succ_pos _))))
        clear hc NO STEP
        go_wp2_with fail
        rw [← unhide HW]
        clear HW c0 c1 c2 c3 c4
        refine wp_region_kept (by kernel_rfl) (by kernel_rfl) ?_
        repeat (first
          | go_big_quiet_step (first | (go_at_call 11; with_reducible exact kept_call (unhide qn _)) | (go_at_call 12; with_reducible exact kept_call (unhide qc _)))
          | quiet_step (first | (go_at_call 11; with_reducible exact kept_call (unhide qn _)) | (go_at_call 12; with_reducible exact kept_call (unhide qc _))))
        refine wpQuiet_nil ?_
        rintro _ ⟨q, rfl⟩
        go_wp2_with fail
        go_ret
        exact ⟨retB (b := false) ⟨fun h => (by cases h), fun h => absurd h (unhide no)⟩, bTr (unhide bk) q.h⟩
      have dc : decide (0 ≤ cc) = false := by simp; omega
      by_cases g1 : A.t.f1.length = 0 ∨ A.t.f1.length = 16
      case neg =>
        have da : ((A.h1.len : Int) != 0) = true := by have e1 := unhide EL1; simp; omega
        have db : ((A.h1.len : Int) != 16) = true := by have e1 := unhide EL1; simp; omega
        have no := hide (unhide NO (fun h => g1 h.1.2.1))
        clear g1 NO STEP
        go_wp2_with fail
        rw [← unhide HW]
        clear HW c0 c1 c2 c3 c4
        refine wp_region_kept (by kernel_rfl) (by kernel_rfl) ?_
        repeat (first
          | go_big_quiet_step (first | (go_at_call 11; with_reducible exact kept_call (unhide qn _)) | (go_at_call 12; with_reducible exact kept_call (unhide qc _)))
          | quiet_step (first | (go_at_call 11; with_reducible exact kept_call (unhide qn _)) | (go_at_call 12; with_reducible exact kept_call (unhide qc _))))
        refine wpQuiet_nil ?_
        rintro _ ⟨q, rfl⟩
        go_wp2_with fail
        go_ret
        exact ⟨retB (b := false) ⟨fun h => (by cases h), fun h => absurd h (unhide no)⟩, bTr (unhide bk) q.h⟩
      have d01 : ((A.h1.len : Int) != 0) = false ∨ (((A.h1.len : Int) != 0) = true ∧ ((A.h1.len : Int) != 16) = false) := by
        have e1 := unhide EL1
        rcases g1 with h | h
        · left; simp; omega
        · right; constructor
          · simp; omega
          · simp; omega
      rcases d01 with da | ⟨da, db⟩
      all_goals
        by_cases g2 : A.t.f2.length ≤ 5
        case neg =>
          have d : decide ((5 : Int) < (A.h2.len : Int)) = true := decide_eq_true (by have e1 := unhide EL2; omega)
          have no := hide (unhide NO (fun h => g2 h.1.2.2.1))
          clear g2 NO STEP
          go_wp2_with fail
          rw [← unhide HW]
          clear HW c0 c1 c2 c3 c4
          refine wp_region_kept (by kernel_rfl) (by kernel_rfl) ?_
          repeat (first
            | go_big_quiet_step (first | (go_at_call 11; with_reducible exact kept_call (unhide qn _)) | (go_at_call 12; with_reducible exact kept_call (unhide qc _)))
            | quiet_step (first | (go_at_call 11; with_reducible exact kept_call (unhide qn _)) | (go_at_call 12; with_reducible exact kept_call (unhide qc _))))
          refine wpQuiet_nil ?_
          rintro _ ⟨q, rfl⟩
          go_wp2_with fail
          go_ret
          exact ⟨retB (b := false) ⟨fun h => (by cases h), fun h => absurd h (unhide no)⟩, bTr (unhide bk) q.h⟩
        have d2 : decide ((5 : Int) < (A.h2.len : Int)) = false := by have e1 := unhide EL2; simp; omega
        by_cases g3 : PS
        case neg =>
          have p3 := hide (fun (q : Kept W) => callsF (unhide qs q.w (bTr (unhide bk) q.h)) g3)
          have no := hide (unhide NO (fun h => g3 h.1.2.2.2.1))
          clear g3 NO STEP
          go_wp2_with fail
          rw [← unhide HW]
          clear HW c0 c1 c2 c3 c4
          refine wp_region_kept (by kernel_rfl) (by kernel_rfl) ?_
          repeat (first
            | go_big_quiet_step (first | (go_at_call 11; with_reducible exact kept_call (unhide qn _)) | (go_at_call 12; with_reducible exact kept_call (unhide qc _)) | (go_at_call 13; with_reducible exact kept_call (unhide p3 _)))
            | quiet_step (first | (go_at_call 11; with_reducible exact kept_call (unhide qn _)) | (go_at_call 12; with_reducible exact kept_call (unhide qc _)) | (go_at_call 13; with_reducible exact kept_call (unhide p3 _))))
          refine wpQuiet_nil ?_
          rintro _ ⟨q, rfl⟩
          go_wp2_with fail
          go_ret
          exact ⟨retB (b := false) ⟨fun h => (by cases h), fun h => absurd h (unhide no)⟩, bTr (unhide bk) q.h⟩
        have p3 := hide (fun (q : Kept W) => callsT (unhide qs q.w (bTr (unhide bk) q.h)) g3)
        by_cases g4 : A.t.f4.length ≤ 4
        case neg =>
          have d : decide ((4 : Int) < (A.h4.len : Int)) = true := decide_eq_true (by have e1 := unhide EL4; omega)
          have no := hide (unhide NO (fun h => g4 h.1.2.2.2.2))
          clear g4 NO STEP
          go_wp2_with fail
          rw [← unhide HW]
          clear HW c0 c1 c2 c3 c4
          refine wp_region_kept (by kernel_rfl) (by kernel_rfl) ?_
          repeat (first
            | go_big_quiet_step (first | (go_at_call 11; with_reducible exact kept_call (unhide qn _)) | (go_at_call 12; with_reducible exact kept_call (unhide qc _)) | (go_at_call 13; with_reducible exact kept_call (unhide p3 _)))
            | quiet_step (first | (go_at_call 11; with_reducible exact kept_call (unhide qn _)) | (go_at_call 12; with_reducible exact kept_call (unhide qc _)) | (go_at_call 13; with_reducible exact kept_call (unhide p3 _))))
          refine wpQuiet_nil ?_
          rintro _ ⟨q, rfl⟩
          go_wp2_with fail
          go_ret
          exact ⟨retB (b := false) ⟨fun h => (by cases h), fun h => absurd h (unhide no)⟩, bTr (unhide bk) q.h⟩
        have d4 : decide ((4 : Int) < (A.h4.len : Int)) = false := by have e1 := unhide EL4; simp; omega
        have S := hide (unhide STEP ⟨⟨g0, g1, g2, g3, g4⟩, fun _ => hc⟩)
        have L5 : A.h2.len ≤ 5 := by have e1 := unhide EL2; omega
        have L4 : A.h4.len ≤ 4 := by have e1 := unhide EL4; omega
        clear NO STEP g0 g1 g2 g3 g4 hc
        go_wp2_with fail
        rw [← unhide HW]
        clear HW c0 c1 c2 c3 c4
        refine wp_region_kept (by kernel_rfl) (by kernel_rfl) ?_
        repeat (first
          | go_big_quiet_step (first | (go_at_call 11; with_reducible exact kept_call (unhide qn _)) | (go_at_call 12; with_reducible exact kept_call (unhide qc _)) | (go_at_call 13; with_reducible exact kept_call (unhide p3 _)))
          | quiet_step (first | (go_at_call 11; with_reducible exact kept_call (unhide qn _)) | (go_at_call 12; with_reducible exact kept_call (unhide qc _)) | (go_at_call 13; with_reducible exact kept_call (unhide p3 _))))
        refine wpQuiet_nil ?_
        rintro _ ⟨q, rfl⟩
        have BE := hide (bTr (unhide bk) q.h)
        have RE := hide ((unhide RW).keep q.h)
        have CEx := hide ((unhide QW).keep q.h)
        have X2 := x2 q
        clear x0 x1 x2 x3 x4 y0 bk RW QW qn qs qc dc dj ej i0 i1 t0
        go_wp2_with fail
        clear X2
        have hz : ((j + 1 : Nat) : Int) = (j : Int) + 1 := by omega
        try rw [hz]
        clear hz
        have dz : decide ((j : Int) + 1 < (n0 : Int)) = true := decide_eq_true (by omega)
        try rw [dz]
        clear dz
        go_loopw [71] (fun i w' => ∃ m : Nat, m ≤ A.h2.len ∧ i = .int .i64 m ∧ Hid (Below w.heap.size w w') ∧ Hid (RowIs w' w.heap.size #[.slice (some ⟨b, off, none⟩) n0 k0, .slice h1.a h1.len h1.cap, .int .i64 sh, .int .i64 lo] 30) ∧ Hid (RowIs w' wr.heap.size #[.string A.t.f0, .slice A.h1.a A.h1.len A.h1.cap, .slice A.h2.a A.h2.len A.h2.cap, .slice A.h3.a A.h3.len A.h3.cap, .slice A.h4.a A.h4.len A.h4.cap] 39) ∧ Hid (∀ i (h : i < A.t.f2.length), i < m → GRd A.t.f2[i])) (fun i _ => A.h2.len - (Go.RowKit.intOf i).toNat)
        case atStart => exact ⟨0, Nat.zero_le _, rfl, BE, RE, CEx, hide (fun i _ h => absurd h (Nat.not_lt_zero _))⟩
        case round =>
          clear BE RE CEx
          obtain ⟨m, hm, rfl, B, R, CX, hP⟩ := hrel
          by_cases hm2 : m < A.h2.len
          case neg =>
            have S2 := hide (unhide S (fun p hp => by
              obtain ⟨i, hi, rfl⟩ := List.getElem_of_mem hp
              exact unhide hP i hi (by have := unhide EL2; omega)))
            have X4 := (unhide CX).at (o := 4) (v := .slice A.h4.a A.h4.len A.h4.cap) rfl
            clear hP S CX
            go_wp2_with fail
            clear X4
            try rw [decide_eq_false hm2]
            go_loopw [92] (fun i w' => ∃ m : Nat, m ≤ A.h4.len ∧ i = .int .i64 m ∧ Hid (Below w.heap.size w w') ∧ Hid (RowIs w' w.heap.size #[.slice (some ⟨b, off, none⟩) n0 k0, .slice h1.a h1.len h1.cap, .int .i64 sh, .int .i64 lo] 30) ∧ Hid (∀ i (h : i < A.t.f4.length), i < m → GKd A.t.f4[i])) (fun i _ => A.h4.len - (Go.RowKit.intOf i).toNat)
            case atStart => exact ⟨0, Nat.zero_le _, rfl, B, R, hide (fun i _ h => absurd h (Nat.not_lt_zero _))⟩
            case round =>
              clear B R
              obtain ⟨m', hm', rfl, B, R, hP⟩ := hrel
              by_cases hm3 : m' < A.h4.len
              case neg =>
                have S4 := hide (unhide S2 (fun p hp => by
                  obtain ⟨i, hi, rfl⟩ := List.getElem_of_mem hp
                  exact unhide hP i hi (by have := unhide EL4; omega)))
                clear hP S2
                go_wp2_with fail
                exact ⟨⟨(j + 1) + 1, by omega, by go_num, B, R, S4⟩, by simp [Go.RowKit.intOf]; omega⟩
              have hm4 : m' < A.t.f4.length := by have := unhide EL4; omega
              obtain ⟨bp, offp, ep, rowp⟩ := ((unhide M4).keep (unhide B)).sl.at hm3
              have n0' := rowp.c m' hm4
              have NOM : Hid (¬ GKd A.t.f4[m'] → ¬ G) := hide (fun h g => h (unhide NOK g _ (List.getElem_mem hm4)))
              have STM : Hid (GKd A.t.f4[m'] → ∀ i (h : i < A.t.f4.length), i < m' + 1 → GKd A.t.f4[i]) := hide (fun g i hi h1 => by
                rcases Nat.lt_or_ge i m' with h2 | h2
                · exact unhide hP i hi h2
                · obtain rfl : i = m' := by omega
                  exact g)
              clear rowp hP
              generalize A.t.f4[m'] = p at n0' NOM STM
              generalize A.h4.a = ab at ep ⊢
              subst ep
              by_cases hg : GKd p
              case neg =>
                have no := hide (unhide NOM hg)
                have dd : p < 1 ∨ (¬ p < 1 ∧ 4 < p) := by unfold GKd at hg; omega
                clear NOM STM hg
                rcases dd with d | ⟨d, d2⟩
                · have d' : decide (p < 1) = true := decide_eq_true d
                  clear d
                  go_wp2_with fail
                  go_ret
                  exact ⟨retB (b := false) ⟨fun h => (by cases h), fun h => absurd h (unhide no)⟩, unhide B⟩
                · have d' : decide (p < 1) = false := decide_eq_false d
                  have d3 : decide (4 < p) = true := decide_eq_true d2
                  clear d d2
                  go_wp2_with fail
                  go_ret
                  exact ⟨retB (b := false) ⟨fun h => (by cases h), fun h => absurd h (unhide no)⟩, unhide B⟩
              have S3 := hide (unhide STM hg)
              have d1 : decide (p < 1) = false := decide_eq_false (by unfold GKd at hg; omega)
              have d3 : decide (4 < p) = false := decide_eq_false (by unfold GKd at hg; omega)
              clear NOM STM hg
              go_wp2_with fail
              exact ⟨⟨m' + 1, by omega, by go_num, B, R, S3⟩, by simp [Go.RowKit.intOf]; omega⟩
          have hm' : m < A.t.f2.length := by have := unhide EL2; omega
          obtain ⟨bp, offp, ep, rowp⟩ := ((unhide M2).keep (unhide B)).sl.at hm2
          have n0' := rowp.c m hm'
          have qp := hide (fun w => l1Printed_any A.t.f2[m] (unhide O2 _ (List.getElem_mem hm')) w)
          have NOM : Hid (¬ GRd A.t.f2[m] → ¬ G) := hide (fun h g => h (unhide NOP g _ (List.getElem_mem hm')))
          have STM : Hid (GRd A.t.f2[m] → ∀ i (h : i < A.t.f2.length), i < m + 1 → GRd A.t.f2[i]) := hide (fun g i hi h1 => by
            rcases Nat.lt_or_ge i m with h2 | h2
            · exact unhide hP i hi h2
            · obtain rfl : i = m := by omega
              exact g)
          have Osz := unhide O2 _ (List.getElem_mem hm')
          unfold maxLen at Osz
          clear rowp hP
          generalize A.t.f2[m] = p at n0' qp NOM STM Osz
          generalize A.h2.a = ab at ep CX ⊢
          subst ep
          have GE : Hid (GRd p ↔ (1 ≤ p.size ∧ p.size ≤ 200 ∧ textL p = true)) := hide Iff.rfl
          generalize GRd p = GP at NOM STM GE
          by_cases h1 : 1 ≤ p.size
          case neg =>
            have no := hide (unhide NOM (fun h => h1 ((unhide GE).1 h).1))
            have d : decide ((p.size : Int) < 1) = true := decide_eq_true (by omega)
            clear NOM STM GE qp h1
            go_wp2_with fail
            go_ret
            exact ⟨retB (b := false) ⟨fun h => (by cases h), fun h => absurd h (unhide no)⟩, unhide B⟩
          have d1 : decide ((p.size : Int) < 1) = false := decide_eq_false (by omega)
          by_cases h2 : p.size ≤ 200
          case neg =>
            have no := hide (unhide NOM (fun h => h2 ((unhide GE).1 h).2.1))
            have d : decide ((200 : Int) < (p.size : Int)) = true := decide_eq_true (by omega)
            clear NOM STM GE qp h1 h2
            go_wp2_with fail
            go_ret
            exact ⟨retB (b := false) ⟨fun h => (by cases h), fun h => absurd h (unhide no)⟩, unhide B⟩
          have d2 : decide ((200 : Int) < (p.size : Int)) = false := decide_eq_false (by omega)
          have GE2 : Hid (GP ↔ textL p = true) := hide ((unhide GE).trans ⟨fun h => h.2.2, fun h => ⟨h1, h2, h⟩⟩)
          generalize textL p = tp at GE2 qp
          clear GE h1 h2
          cases tp
          · have no := hide (unhide NOM (fun h => by have := (unhide GE2).1 h; cases this))
            clear NOM STM GE2
            go_wp2_with (go_at_call 14; refine (unhide qp _).mono ?_; rintro r w4 ⟨rfl, rfl⟩)
            go_ret
            exact ⟨retB (b := false) ⟨fun h => (by cases h), fun h => absurd h (unhide no)⟩, unhide B⟩
          · have S3 := hide (unhide STM ((unhide GE2).2 (by trivial)))
            clear NOM STM GE2
            go_wp2_with (go_at_call 14; refine (unhide qp _).mono ?_; rintro r w4 ⟨rfl, rfl⟩)
            exact ⟨⟨m + 1, by omega, by go_num, B, R, CX, S3⟩, by simp [Go.RowKit.intOf]; omega⟩
end Go.Proofs.Ytflabaknembioaa.V
