/- Rings of keys: spec.GoodRing. -/
import Derived.Test.YtenbliiombjldaaKRg
namespace Go.Proofs.Ytenbliiombjldaa
open Go.RowKit
set_option maxRecDepth 20000
/-- Good and rising up to k. -/
def RingTo (l : List KeyT) (k : Nat) : Prop := (∀ i (h : i < l.length), i < k → KeyP l[i]) ∧ ∀ i (h : i + 1 < l.length), i + 1 < k → cmpT l[i].f0.data.toList l[i + 1].f0.data.toList < 0
theorem RingTo.zero (l : List KeyT) : RingTo l 0 := ⟨fun _ _ h => absurd h (by omega), fun _ _ h => absurd h (by omega)⟩
theorem RingTo.step {l : List KeyT} {k : Nat} (h : RingTo l k) (hk : k < l.length) (g : KeyP l[k]) (c : ∀ j (e : k = j + 1), cmpT (l[j]'(by omega)).f0.data.toList l[k].f0.data.toList < 0) : RingTo l (k + 1) :=
  ⟨fun i hi h1 => by
    rcases Nat.lt_or_ge i k with h2 | h2
    · exact h.1 i hi h2
    · obtain rfl : i = k := by omega
      exact g, fun i hi h1 => by
    rcases Nat.lt_or_ge (i + 1) k with h2 | h2
    · exact h.2 i hi h2
    · obtain rfl : k = i + 1 := by omega
      exact c i rfl⟩
theorem RingTo.all {l : List KeyT} {k : Nat} (h : RingTo l k) (hk : l.length ≤ k) : RingP l ↔ (l.length : Int) ≤ 10 :=
  ⟨fun h => h.1, fun g => ⟨g, fun x hx => by
    obtain ⟨i, hi, rfl⟩ := List.getElem_of_mem hx
    exact h.1 i hi (by omega), fun i hi => h.2 i hi (by omega)⟩⟩

set_option maxHeartbeats 4000000 in
theorem sGoodRing_w (a : Option Addr) (len cap : Nat) (l : List KeyT) (w : World) (hl : len ≤ maxLen) (hs : SlKey w a len l) (hok : ∀ q ∈ l, q.f0.size ≤ maxLen) :
    Calls Try.prog 13 #[.slice a len cap] w fun e w' => RetB e (RingP l) ∧ Below w.heap.size w w' := by
  have HS := hide hs
  have HL := hide hs.1
  have HO := hide hok
  unfold maxLen at hl
  clear hs hok
  go_enter Try.func13, Try.ntmps13
  go_wp2_with fail
  go_loopw [7] (fun i w' => ∃ k : Nat, k ≤ len ∧ i = .int .i64 k ∧ Hid (Below w.heap.size w w') ∧ Hid (RingTo l k)) (fun i _ => len - (Go.RowKit.intOf i).toNat)
  case atStart => exact ⟨0, Nat.zero_le _, rfl, hide (Below.refl _ _), hide (RingTo.zero l)⟩
  case round =>
    obtain ⟨k, hk, rfl, hb, hR⟩ := hrel
    by_cases hlt : k < len
    · have hk' : k < l.length := by have := unhide HL; omega
      obtain ⟨bb_, off, e0, hrow⟩ := ((unhide HS).keep (unhide hb)).at hlt
      subst e0
      have c0 := hrow.c0 k hk'
      have c1 := hrow.c1 k hk'
      have c2 := hrow.c2 k hk'
      have c3 := hrow.c3 k hk'
      have zk := hrow.z
      have HRow := hide hrow
      have HSz := hide (unhide HO _ (List.getElem_mem hk'))
      have HN : Hid (¬ KeyP l[k] → ¬ RingP l) := hide (fun g h => g (h.2.1 _ (List.getElem_mem hk')))
      have HC : Hid (∀ j (e : k = j + 1), ¬ cmpT (l[j]'(by omega)).f0.data.toList l[k].f0.data.toList < 0 → ¬ RingP l) := hide (fun j e g h => g (by subst e; exact h.2.2 j hk'))
      have HT := hide (fun g c => (unhide hR).step hk' g c)
      have HG : ∀ j (e : k = j + 1), Hid ((l[j]'(by omega)).f0.size ≤ maxLen) := fun j e => hide (unhide HO _ (List.getElem_mem (by omega)))
      clear hrow hR
      by_cases hk0 : k = 0
      · subst hk0
        simp only [Nat.zero_mul, Nat.add_zero] at c0 c1 c2 c3
        obtain ⟨W, hW⟩ : ∃ W, W = wr.alloc (.cells #[.string l[0].f0, .int .i64 l[0].f1, .int .i64 l[0].f2, .int .i64 l[0].f3] 30) := ⟨_, rfl⟩
        have bW : Below wr.heap.size wr W := by rw [hW]; exact bAl (Below.refl _ _) _
        have RW : RowIs W wr.heap.size #[.string l[0].f0, .int .i64 l[0].f1, .int .i64 l[0].f2, .int .i64 l[0].f3] 30 := by rw [hW]; exact RowIs.new _ _ _
        have HW := hide hW.symm
        have ne : Nonempty (Kept W) := ⟨⟨W, Below.refl _ _⟩⟩
        have bk := hide (bTr (unhide hb) bW)
        have x0 := kept_cell (W := W) (p := ⟨wr.heap.size, 0, none⟩) RW.lt (RW.at (o := 0) (v := .string l[0].f0) rfl)
        have x1 := kept_cell (W := W) (p := ⟨wr.heap.size, 1, none⟩) RW.lt (RW.at (o := 1) (v := .int .i64 l[0].f1) rfl)
        have x2 := kept_cell (W := W) (p := ⟨wr.heap.size, 2, none⟩) RW.lt (RW.at (o := 2) (v := .int .i64 l[0].f2) rfl)
        have x3 := kept_cell (W := W) (p := ⟨wr.heap.size, 3, none⟩) RW.lt (RW.at (o := 3) (v := .int .i64 l[0].f3) rfl)
        have qn := hide (fun (q : Kept W) => l7Id_any l[0].f0 (unhide HSz) q.w)
        have qp := hide (fun (q : Kept W) => D.sPublic_p l[0].f1 q.w)
        clear hW RW HRow bW
        generalize l[0] = A at *
        obtain ⟨f0, f1, f2, f3⟩ := A
        simp only at c0 c1 c2 c3 x0 x1 x2 x3 HW qn qp
        cases g0 : idB f0
        case false =>
          have no := hide (unhide HN (fun h => by have := h.1; simp only at this; rw [g0] at this; cases this))
          rw [g0] at qn
          clear g0 HN HT HC
          go_wp2_with fail
          rw [unhide HW]
          clear HW c0 c1 c2 c3
          refine wp_region_kept (by kernel_rfl) (by kernel_rfl) ?_
          repeat (first
            | go_big_quiet_step (first | (go_at_call 24; with_reducible exact kept_call (unhide qn _)))
            | quiet_step (first | (go_at_call 24; with_reducible exact kept_call (unhide qn _))))
          refine wpQuiet_nil ?_
          rintro _ ⟨q, rfl⟩
          go_wp2_with fail
          go_ret
          exact ⟨retB (b := false) ⟨fun h => (by cases h), fun h => absurd h (unhide no)⟩, bTr (unhide bk) q.h⟩
        rw [g0] at qn
        cases g1 : D.pubB f1
        case false =>
          have no := hide (unhide HN (fun h => by have := h.2.1; simp only at this; rw [g1] at this; cases this))
          rw [g1] at qp
          clear g0 g1 HN HT HC
          go_wp2_with fail
          rw [unhide HW]
          clear HW c0 c1 c2 c3
          refine wp_region_kept (by kernel_rfl) (by kernel_rfl) ?_
          repeat (first
            | go_big_quiet_step (first | (go_at_call 24; with_reducible exact kept_call (unhide qn _)) | (go_at_call 25; with_reducible exact kept_same (unhide qp _)))
            | quiet_step (first | (go_at_call 24; with_reducible exact kept_call (unhide qn _)) | (go_at_call 25; with_reducible exact kept_same (unhide qp _))))
          refine wpQuiet_nil ?_
          rintro _ ⟨q, rfl⟩
          go_wp2_with fail
          go_ret
          exact ⟨retB (b := false) ⟨fun h => (by cases h), fun h => absurd h (unhide no)⟩, bTr (unhide bk) q.h⟩
        rw [g1] at qp
        by_cases gd2 : 0 ≤ f2
        case neg =>
          have d2 : decide (f2 < 0) = true := by simp; omega
          have no := hide (unhide HN (fun h => absurd h.2.2.1 gd2))
          clear g0 g1 HN HT HC
          go_wp2_with fail
          rw [unhide HW]
          clear HW c0 c1 c2 c3
          refine wp_region_kept (by kernel_rfl) (by kernel_rfl) ?_
          repeat (first
            | go_big_quiet_step (first | (go_at_call 24; with_reducible exact kept_call (unhide qn _)) | (go_at_call 25; with_reducible exact kept_same (unhide qp _)))
            | quiet_step (first | (go_at_call 24; with_reducible exact kept_call (unhide qn _)) | (go_at_call 25; with_reducible exact kept_same (unhide qp _))))
          refine wpQuiet_nil ?_
          rintro _ ⟨q, rfl⟩
          go_wp2_with fail
          go_ret
          exact ⟨retB (b := false) ⟨fun h => (by cases h), fun h => absurd h (unhide no)⟩, bTr (unhide bk) q.h⟩
        have d2 : decide (f2 < 0) = false := by simp; omega
        by_cases gd3 : f3 ≤ 100000000000
        case neg =>
          have d3 : decide (100000000000 < f3) = true := by simp; omega
          have no := hide (unhide HN (fun h => absurd h.2.2.2.2 gd3))
          clear g0 g1 HN HT HC
          go_wp2_with fail
          rw [unhide HW]
          clear HW c0 c1 c2 c3
          refine wp_region_kept (by kernel_rfl) (by kernel_rfl) ?_
          repeat (first
            | go_big_quiet_step (first | (go_at_call 24; with_reducible exact kept_call (unhide qn _)) | (go_at_call 25; with_reducible exact kept_same (unhide qp _)))
            | quiet_step (first | (go_at_call 24; with_reducible exact kept_call (unhide qn _)) | (go_at_call 25; with_reducible exact kept_same (unhide qp _))))
          refine wpQuiet_nil ?_
          rintro _ ⟨q, rfl⟩
          go_wp2_with fail
          go_ret
          exact ⟨retB (b := false) ⟨fun h => (by cases h), fun h => absurd h (unhide no)⟩, bTr (unhide bk) q.h⟩
        have d3 : decide (100000000000 < f3) = false := by simp; omega
        by_cases gd4 : f2 ≤ f3
        case neg =>
          have d4 : decide (f3 < f2) = true := by simp; omega
          have no := hide (unhide HN (fun h => absurd h.2.2.2.1 gd4))
          clear g0 g1 HN HT HC
          go_wp2_with fail
          rw [unhide HW]
          clear HW c0 c1 c2 c3
          refine wp_region_kept (by kernel_rfl) (by kernel_rfl) ?_
          repeat (first
            | go_big_quiet_step (first | (go_at_call 24; with_reducible exact kept_call (unhide qn _)) | (go_at_call 25; with_reducible exact kept_same (unhide qp _)))
            | quiet_step (first | (go_at_call 24; with_reducible exact kept_call (unhide qn _)) | (go_at_call 25; with_reducible exact kept_same (unhide qp _))))
          refine wpQuiet_nil ?_
          rintro _ ⟨q, rfl⟩
          go_wp2_with fail
          go_ret
          exact ⟨retB (b := false) ⟨fun h => (by cases h), fun h => absurd h (unhide no)⟩, bTr (unhide bk) q.h⟩
        have d4 : decide (f3 < f2) = false := by simp; omega
        have S := hide (unhide HT ⟨g0, g1, gd2, gd4, gd3⟩ (fun j e => absurd e (by omega)))
        clear g0 g1 HN HT HC
        go_wp2_with fail
        rw [unhide HW]
        clear HW c0 c1 c2 c3
        refine wp_region_kept (by kernel_rfl) (by kernel_rfl) ?_
        repeat (first
          | go_big_quiet_step (first | (go_at_call 24; with_reducible exact kept_call (unhide qn _)) | (go_at_call 25; with_reducible exact kept_same (unhide qp _)))
          | quiet_step (first | (go_at_call 24; with_reducible exact kept_call (unhide qn _)) | (go_at_call 25; with_reducible exact kept_same (unhide qp _))))
        refine wpQuiet_nil ?_
        rintro _ ⟨q, rfl⟩
        go_wp2_with fail
        exact ⟨⟨1, by omega, by go_num, hide (bTr (unhide bk) q.h), S⟩, by simp [Go.RowKit.intOf]; omega⟩
      · obtain ⟨j, rfl⟩ : ∃ j, k = j + 1 := ⟨k - 1, by omega⟩
        have hj : j < l.length := by omega
        have o0 := (unhide HRow).c0 j hj
        replace HG := HG j rfl
        replace HC := hide (unhide HC j rfl)
        replace HT := hide (fun g (c : cmpT l[j].f0.data.toList l[j + 1].f0.data.toList < 0) => unhide HT g (fun j' e => by have h : j' = j := (by omega); subst h; exact c))
        obtain ⟨W, hW⟩ : ∃ W, W = wr.alloc (.cells #[.string l[j + 1].f0, .int .i64 l[j + 1].f1, .int .i64 l[j + 1].f2, .int .i64 l[j + 1].f3] 30) := ⟨_, rfl⟩
        have bW : Below wr.heap.size wr W := by rw [hW]; exact bAl (Below.refl _ _) _
        have RW : RowIs W wr.heap.size #[.string l[j + 1].f0, .int .i64 l[j + 1].f1, .int .i64 l[j + 1].f2, .int .i64 l[j + 1].f3] 30 := by rw [hW]; exact RowIs.new _ _ _
        have HW := hide hW.symm
        have ne : Nonempty (Kept W) := ⟨⟨W, Below.refl _ _⟩⟩
        have bk := hide (bTr (unhide hb) bW)
        have x0 := kept_cell (W := W) (p := ⟨wr.heap.size, 0, none⟩) RW.lt (RW.at (o := 0) (v := .string l[j + 1].f0) rfl)
        have x1 := kept_cell (W := W) (p := ⟨wr.heap.size, 1, none⟩) RW.lt (RW.at (o := 1) (v := .int .i64 l[j + 1].f1) rfl)
        have x2 := kept_cell (W := W) (p := ⟨wr.heap.size, 2, none⟩) RW.lt (RW.at (o := 2) (v := .int .i64 l[j + 1].f2) rfl)
        have x3 := kept_cell (W := W) (p := ⟨wr.heap.size, 3, none⟩) RW.lt (RW.at (o := 3) (v := .int .i64 l[j + 1].f3) rfl)
        have y0 := kept_cell (W := W) (p := ⟨bb_, off + j * 4, none⟩) (Nat.lt_of_lt_of_le zk bW.size) (cellB bW zk o0)
        clear o0
        have ej : IntKind.i64.wrap ((j : Int) + 1 - 1) = (j : Int) := by rw [IntKind.wrap_i64]; omega
        have i0 : (0 : Int) ≤ (j : Int) := by omega
        have i1 : (j : Int) < (len : Int) := by omega
        have i2 : (j : Int) + 1 < (len : Int) := by omega
        have i3 : decide ((0 : Int) < (j : Int) + 1) = true := decide_eq_true (by omega)
        have qc := hide (fun (q : Kept W) => cmpText_any l[j].f0 l[j + 1].f0 q.w (unhide HG))
        have qn := hide (fun (q : Kept W) => l7Id_any l[j + 1].f0 (unhide HSz) q.w)
        have qp := hide (fun (q : Kept W) => D.sPublic_p l[j + 1].f1 q.w)
        generalize cmpT l[j].f0.data.toList l[j + 1].f0.data.toList = cc at qc HT HC
        generalize l[j] = G at *
        clear hW RW HRow bW
        generalize l[j + 1] = A at *
        obtain ⟨f0, f1, f2, f3⟩ := A
        simp only at c0 c1 c2 c3 x0 x1 x2 x3 HW qn qp qc y0
        cases g0 : idB f0
        case false =>
          have no := hide (unhide HN (fun h => by have := h.1; simp only at this; rw [g0] at this; cases this))
          rw [g0] at qn
          clear g0 HN HT HC
          go_wp2_with fail
          rw [unhide HW]
          clear HW c0 c1 c2 c3
          refine wp_region_kept (by kernel_rfl) (by kernel_rfl) ?_
          repeat (first
            | go_big_quiet_step (first | (go_at_call 24; with_reducible exact kept_call (unhide qn _)))
            | quiet_step (first | (go_at_call 24; with_reducible exact kept_call (unhide qn _))))
          refine wpQuiet_nil ?_
          rintro _ ⟨q, rfl⟩
          go_wp2_with fail
          go_ret
          exact ⟨retB (b := false) ⟨fun h => (by cases h), fun h => absurd h (unhide no)⟩, bTr (unhide bk) q.h⟩
        rw [g0] at qn
        by_cases gc : cc < 0
        case neg =>
          have dc : decide (0 ≤ cc) = true := by simp; omega
          have no := hide (unhide HC gc)
          clear g0 gc HN HT HC
          go_wp2_with fail
          rw [unhide HW]
          clear HW c0 c1 c2 c3
          refine wp_region_kept (by kernel_rfl) (by kernel_rfl) ?_
          repeat (first
            | go_big_quiet_step (first | (go_at_call 24; with_reducible exact kept_call (unhide qn _)) | (go_at_call 14; with_reducible exact kept_call (unhide qc _)))
            | quiet_step (first | (go_at_call 24; with_reducible exact kept_call (unhide qn _)) | (go_at_call 14; with_reducible exact kept_call (unhide qc _))))
          refine wpQuiet_nil ?_
          rintro _ ⟨q, rfl⟩
          go_wp2_with fail
          go_ret
          exact ⟨retB (b := false) ⟨fun h => (by cases h), fun h => absurd h (unhide no)⟩, bTr (unhide bk) q.h⟩
        have dc : decide (0 ≤ cc) = false := by simp; omega
        cases g1 : D.pubB f1
        case false =>
          have no := hide (unhide HN (fun h => by have := h.2.1; simp only at this; rw [g1] at this; cases this))
          rw [g1] at qp
          clear g0 g1 HN HT HC
          go_wp2_with fail
          rw [unhide HW]
          clear HW c0 c1 c2 c3
          refine wp_region_kept (by kernel_rfl) (by kernel_rfl) ?_
          repeat (first
            | go_big_quiet_step (first | (go_at_call 24; with_reducible exact kept_call (unhide qn _)) | (go_at_call 14; with_reducible exact kept_call (unhide qc _)) | (go_at_call 25; with_reducible exact kept_same (unhide qp _)))
            | quiet_step (first | (go_at_call 24; with_reducible exact kept_call (unhide qn _)) | (go_at_call 14; with_reducible exact kept_call (unhide qc _)) | (go_at_call 25; with_reducible exact kept_same (unhide qp _))))
          refine wpQuiet_nil ?_
          rintro _ ⟨q, rfl⟩
          go_wp2_with fail
          go_ret
          exact ⟨retB (b := false) ⟨fun h => (by cases h), fun h => absurd h (unhide no)⟩, bTr (unhide bk) q.h⟩
        rw [g1] at qp
        by_cases gd2 : 0 ≤ f2
        case neg =>
          have d2 : decide (f2 < 0) = true := by simp; omega
          have no := hide (unhide HN (fun h => absurd h.2.2.1 gd2))
          clear g0 g1 HN HT HC
          go_wp2_with fail
          rw [unhide HW]
          clear HW c0 c1 c2 c3
          refine wp_region_kept (by kernel_rfl) (by kernel_rfl) ?_
          repeat (first
            | go_big_quiet_step (first | (go_at_call 24; with_reducible exact kept_call (unhide qn _)) | (go_at_call 14; with_reducible exact kept_call (unhide qc _)) | (go_at_call 25; with_reducible exact kept_same (unhide qp _)))
            | quiet_step (first | (go_at_call 24; with_reducible exact kept_call (unhide qn _)) | (go_at_call 14; with_reducible exact kept_call (unhide qc _)) | (go_at_call 25; with_reducible exact kept_same (unhide qp _))))
          refine wpQuiet_nil ?_
          rintro _ ⟨q, rfl⟩
          go_wp2_with fail
          go_ret
          exact ⟨retB (b := false) ⟨fun h => (by cases h), fun h => absurd h (unhide no)⟩, bTr (unhide bk) q.h⟩
        have d2 : decide (f2 < 0) = false := by simp; omega
        by_cases gd3 : f3 ≤ 100000000000
        case neg =>
          have d3 : decide (100000000000 < f3) = true := by simp; omega
          have no := hide (unhide HN (fun h => absurd h.2.2.2.2 gd3))
          clear g0 g1 HN HT HC
          go_wp2_with fail
          rw [unhide HW]
          clear HW c0 c1 c2 c3
          refine wp_region_kept (by kernel_rfl) (by kernel_rfl) ?_
          repeat (first
            | go_big_quiet_step (first | (go_at_call 24; with_reducible exact kept_call (unhide qn _)) | (go_at_call 14; with_reducible exact kept_call (unhide qc _)) | (go_at_call 25; with_reducible exact kept_same (unhide qp _)))
            | quiet_step (first | (go_at_call 24; with_reducible exact kept_call (unhide qn _)) | (go_at_call 14; with_reducible exact kept_call (unhide qc _)) | (go_at_call 25; with_reducible exact kept_same (unhide qp _))))
          refine wpQuiet_nil ?_
          rintro _ ⟨q, rfl⟩
          go_wp2_with fail
          go_ret
          exact ⟨retB (b := false) ⟨fun h => (by cases h), fun h => absurd h (unhide no)⟩, bTr (unhide bk) q.h⟩
        have d3 : decide (100000000000 < f3) = false := by simp; omega
        by_cases gd4 : f2 ≤ f3
        case neg =>
          have d4 : decide (f3 < f2) = true := by simp; omega
          have no := hide (unhide HN (fun h => absurd h.2.2.2.1 gd4))
          clear g0 g1 HN HT HC
          go_wp2_with fail
          rw [unhide HW]
          clear HW c0 c1 c2 c3
          refine wp_region_kept (by kernel_rfl) (by kernel_rfl) ?_
          repeat (first
            | go_big_quiet_step (first | (go_at_call 24; with_reducible exact kept_call (unhide qn _)) | (go_at_call 14; with_reducible exact kept_call (unhide qc _)) | (go_at_call 25; with_reducible exact kept_same (unhide qp _)))
            | quiet_step (first | (go_at_call 24; with_reducible exact kept_call (unhide qn _)) | (go_at_call 14; with_reducible exact kept_call (unhide qc _)) | (go_at_call 25; with_reducible exact kept_same (unhide qp _))))
          refine wpQuiet_nil ?_
          rintro _ ⟨q, rfl⟩
          go_wp2_with fail
          go_ret
          exact ⟨retB (b := false) ⟨fun h => (by cases h), fun h => absurd h (unhide no)⟩, bTr (unhide bk) q.h⟩
        have d4 : decide (f3 < f2) = false := by simp; omega
        have S := hide (unhide HT ⟨g0, g1, gd2, gd4, gd3⟩ gc)
        clear g0 g1 HN HT HC
        go_wp2_with fail
        rw [unhide HW]
        clear HW c0 c1 c2 c3
        refine wp_region_kept (by kernel_rfl) (by kernel_rfl) ?_
        repeat (first
          | go_big_quiet_step (first | (go_at_call 24; with_reducible exact kept_call (unhide qn _)) | (go_at_call 14; with_reducible exact kept_call (unhide qc _)) | (go_at_call 25; with_reducible exact kept_same (unhide qp _)))
          | quiet_step (first | (go_at_call 24; with_reducible exact kept_call (unhide qn _)) | (go_at_call 14; with_reducible exact kept_call (unhide qc _)) | (go_at_call 25; with_reducible exact kept_same (unhide qp _))))
        refine wpQuiet_nil ?_
        rintro _ ⟨q, rfl⟩
        go_wp2_with fail
        exact ⟨⟨j + 1 + 1, by omega, by go_num, hide (bTr (unhide bk) q.h), S⟩, by simp [Go.RowKit.intOf]; omega⟩
    · have HT := hide ((unhide hR).all (by have := unhide HL; omega))
      go_wp2_with fail
      go_ret
      exact ⟨retB (b := decide ((len : Int) ≤ 10)) (by rw [unhide HT, decide_eq_true_iff, unhide HL]), unhide hb⟩
theorem sGoodRing_any (a : Option Addr) (len cap : Nat) (l : List KeyT) (w : World) (hl : len ≤ maxLen) (hs : SlKey w a len l) (hok : ∀ q ∈ l, KeyT.Ok q) :
    Calls Try.prog 13 #[.slice a len cap] w fun e w' => RetB e (RingP l) ∧ Below w.heap.size w w' := sGoodRing_w a len cap l w hl hs (fun q h => (hok q h).o0)
end Go.Proofs.Ytenbliiombjldaa
