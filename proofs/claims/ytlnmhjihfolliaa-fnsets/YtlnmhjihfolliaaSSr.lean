/- spec.l1Sorted. -/
import Derived.Test.YtlnmhjihfolliaaSIn
import Derived.Test.YtlnmhjihfolliaaSIm
namespace Go.Proofs.Ytlnmhjihfolliaa.V
open Go.RowKit
set_option maxRecDepth 20000
set_option linter.unusedVariables false
theorem AtomAt.grownA {w w' : World} {b : Nat} {x n : Int} {t y : ByteArray} {r : Option Nat} (h : AtomAt w b x n t y) (hg : w.grownBy w' r) (hne : r ≠ some b) : AtomAt w' b x n t y := by
  have f : ∀ o, w'.cell? ⟨b, o, none⟩ = w.cell? ⟨b, o, none⟩ := fun o => World.cell?_of_block (hg.block b h.z (fun e => hne e.symm))
  exact ⟨(f 0).trans h.c0, (f 1).trans h.c1, (f 2).trans h.c2, (f 3).trans h.c3, Nat.lt_of_lt_of_le h.z hg.size⟩
set_option maxHeartbeats 8000000 in
theorem l1Sorted_any (a : Option Addr) (len cap : Nat) (l : List AtomT) (w : World) (hl : len ≤ 1000) (hs : SlA w a len l) (hok : ∀ q ∈ l, AtomT.Ok q) :
    Calls Try.prog 21 #[.slice a len cap] w fun e w' => (∃ v r, e = .returned v ∧ Hid (SetR l r ∧ w'.ownsRow w.heap.size 26 4 v r.length (atomsV r))) ∧ Below w.heap.size w w' := by
  obtain ⟨i0, hi, hz0, hz1, hz2⟩ := info_parts info_atom
  have HS := hide hs
  have HO := hide hok
  have HL := hide hs.1
  clear hs hok
  go_enter Try.func21, Try.ntmps21
  go_wp2_with fail
  go_loopw [3, 10] (fun v i wr => ∃ (k : Nat) (L : List AtomT), k ≤ len ∧ i = .int .i64 k ∧ Hid (wr.ownsRow w.heap.size 26 4 v L.length (atomsV L)) ∧ Hid (SetR (l.take k) L) ∧ L.length ≤ k ∧ Hid (Below w.heap.size w wr)) (fun _ i _ => len - (intOf i).toNat)
  case atStart => exact ⟨0, [], Nat.zero_le _, rfl, hide (World.ownsRow_nil _ _ _ _), hide SetR.nil, Nat.le_refl _, hide (Below.refl _ _)⟩
  case round =>
    obtain ⟨k, L, hk, rfl, hO, hR, hLk, hB⟩ := hrel
    obtain ⟨a3, cap3, e3⟩ := own_sl (unhide hO)
    subst e3
    by_cases hlt : k < len
    · have hk' : k < l.length := by rw [← unhide HL]; exact hlt
      obtain ⟨b, off, rfl, hrow⟩ := ((unhide HS).keep (unhide hB)).at hlt
      obtain ⟨o0, o1, o2, o3⟩ := hrow.c k hk'
      have SA := hide (show ∀ j, j ≤ L.length → (∀ i (hi : i < L.length), j ≤ i → 0 < L[i].cmp l[k]) → (∀ (h0 : 0 < j) (h1 : j - 1 < L.length), (L[j - 1]'h1).cmp l[k] < 0) → SetR (l.take (k + 1)) (insA L l[k] j) from fun j h1 h2 h3 => by rw [List.take_succ_eq_append_getElem hk']; exact (unhide hR).ins h1 h2 (fun h0 => h3 h0 (by omega)))
      have SB := hide (show l[k] ∈ L → SetR (l.take (k + 1)) L from fun h => by rw [List.take_succ_eq_append_getElem hk']; exact (unhide hR).again (((unhide hR).mem _).1 h))
      have OKL := hide (show ∀ x ∈ L, AtomT.Ok x from fun x hx => unhide HO x (List.mem_of_mem_take (((unhide hR).mem x).1 hx)))
      have OKA := hide (unhide HO _ (List.getElem_mem hk'))
      clear hrow hR
      generalize l[k] = A at o0 o1 o2 o3 SA SB OKA
      obtain ⟨bA, hbA⟩ : ∃ bA, wr.heap.size = bA := ⟨_, rfl⟩
      have LT3 := hide (show ∀ g, (Value.slice a3 L.length cap3).ownBlock = some g → g < bA from fun g e => by rw [← hbA]; exact ((unhide hO).lt g e).2)
      obtain ⟨W0, hW0⟩ : ∃ W0, W0 = wr.alloc (.cells #[.int .i64 A.x, .int .i64 A.n, .string A.t, .string A.y] 26) := ⟨_, rfl⟩
      have O0 := hide (show W0.ownsRow w.heap.size 26 4 (.slice a3 L.length cap3) L.length (atomsV L) by rw [hW0]; exact (unhide hO).alloc _)
      have XA := hide (show AtomAt W0 bA A.x A.n A.t A.y by rw [hW0, ← hbA]; exact AtomAt.new wr _ _ _ _ _)
      have B0 := hide (show Below w.heap.size w W0 by rw [hW0]; exact bAl (unhide hB) _)
      have HW := hide hW0.symm
      have HBA := hide hbA
      clear hW0 hO hB hbA
      go_wp2_with fail
      rw [unhide HW, unhide HBA]
      clear HW HBA o0 o1 o2 o3
      go_loopw [6] (fun j wx => ∃ q : Nat, q ≤ L.length ∧ j = .int .i64 q ∧ Hid (∀ i (hi : i < L.length), q ≤ i → 0 < L[i].cmp A) ∧ Hid (Below W0.heap.size W0 wx)) (fun j _ => (intOf j).toNat)
      case atStart => exact ⟨L.length, Nat.le_refl _, rfl, hide (fun i hi h => absurd hi (by omega)), hide (Below.refl _ _)⟩
      case round =>
        obtain ⟨q, hq, rfl, GT, hB1⟩ := hrel
        have O2 := hide (own_keepT (unhide O0) (unhide hB1))
        have X2 := hide ((unhide XA).keep (unhide hB1))
        have B2 := hide (bTr (unhide B0) (unhide hB1))
        rcases Nat.eq_zero_or_pos q with hq0 | hq0
        · subst hq0
          have SI := hide (unhide SA 0 (by omega) (unhide GT) (fun h => absurd h (Nat.lt_irrefl _)))
          have dj : decide ((0 : Int) < 0) = false := by simp
          clear GT hB1 SA SB
          have ne : Nonempty (Kept wr) := ⟨⟨wr, Below.refl _ _⟩⟩
          have x0 := fun u : Kept wr => ((unhide X2).kept u).c0
          have x1 := fun u : Kept wr => ((unhide X2).kept u).c1
          have x2 := fun u : Kept wr => ((unhide X2).kept u).c2
          have x3 := fun u : Kept wr => ((unhide X2).kept u).c3
          go_wp2_with fail
          refine wp_region_kept (by kernel_rfl) (by kernel_rfl) ?_
          repeat (first
            | go_big_quiet_step (fail)
            | quiet_step (fail))
          refine wpQuiet_nil ?_
          rintro _ ⟨u1, rfl⟩
          clear ne x0 x1 x2 x3
          replace O2 := hide (own_keepT (unhide O2) u1.h)
          replace X2 := hide ((unhide X2).keep u1.h)
          replace B2 := hide (bTr (unhide B2) u1.h)
          obtain ⟨W2, hW2⟩ : ∃ W2, u1.w = W2 := ⟨_, rfl⟩
          rw [hW2] at O2 X2 B2 ⊢
          clear hW2
          go_wp2_with fail
          have ne : Nonempty (Kept W2) := ⟨⟨W2, Below.refl _ _⟩⟩
          have x0 := fun u : Kept W2 => ((unhide X2).kept u).c0
          have x1 := fun u : Kept W2 => ((unhide X2).kept u).c1
          have x2 := fun u : Kept W2 => ((unhide X2).kept u).c2
          have x3 := fun u : Kept W2 => ((unhide X2).kept u).c3
          refine wp_region_kept (by kernel_rfl) (by kernel_rfl) ?_
          repeat (first
            | go_big_quiet_step (fail)
            | quiet_step (fail))
          refine wpQuiet_nil ?_
          rintro _ ⟨u2, rfl⟩
          clear ne x0 x1 x2 x3
          replace O2 := hide (own_keepT (unhide O2) u2.h)
          replace X2 := hide ((unhide X2).keep u2.h)
          replace B2 := hide (bTr (unhide B2) u2.h)
          obtain ⟨W3, hW3⟩ : ∃ W3, u2.w = W3 := ⟨_, rfl⟩
          rw [hW3] at O2 X2 B2 ⊢
          clear hW3
          have LI := insA_len (L := L) (s := A) (j := 0) (by omega)
          have t2 := hide (cell_four_new W3 (cellsA A) 26)
          have T3 := hide (show ∀ u ∈ cellsA A, u.oneCell' = true from fun u hu => by simp [cellsA] at hu; rcases hu with rfl | rfl | rfl | rfl <;> rfl)
          have t5 : (L.length + 1) * 48 ≤ 140737488355328 := by omega
          have B2s := (unhide B2).size
          have T4 := hide (show w.heap.size ≤ (W3.alloc (.cells #[.int .i64 A.x, .int .i64 A.n, .string A.t, .string A.y] 26)).heap.size by simp; omega)
          have nA := hide (show ∀ g, (Value.slice a3 L.length cap3).ownBlock = some g → g < bA from unhide LT3)
          have lA : bA < W3.heap.size := (unhide X2).z
          obtain ⟨c0, c1, c2, c3, _⟩ := unhide X2
          go_wp2_with (at_builtin; refine wpList_append_own_at _ rfl _ _ 23 rfl w.heap.size 26 i0 _ 4 48 Try.underlying23 hi hz0 hz1 hz2 rfl (by decide) _ _ _ rfl ((unhide O2).alloc _) ⟨_, 0, none⟩ 1 1 (cellsA A) rfl rfl (unhide t2) (unhide T3) (by unfold maxLen; omega) t5 (unhide T4) ?_; intro v5 w5 hown5 hgrow5 _ hat5; have N5 := hide (show w5.ownsRow w.heap.size 26 4 v5 (L.length + 1) (atomsV (shA L A L.length)) by rw [shA_start, atomsV_snoc]; exact hown5); have X5 := hide (((unhide X2).more (.cells #[.int .i64 A.x, .int .i64 A.n, .string A.t, .string A.y] 26)).grownA hgrow5 (fun e => Nat.lt_irrefl _ (unhide nA _ e))); have B5 := hide ((bAl (unhide B2) (.cells #[.int .i64 A.x, .int .i64 A.n, .string A.t, .string A.y] 26)).grown hgrow5 (by simp; omega) (fun j hj => ((unhide O2).lt j hj).1)); have ng5 := hide (show ∀ g, v5.ownBlock = some g → g ≠ bA from fun g e => by rcases hat5 with h | h; exact Nat.ne_of_lt (unhide nA g (h.symm.trans e)); (have e2 := h.symm.trans e; simp at e2; omega)); clear hown5 hgrow5 hat5; obtain ⟨g5, cap5, ev5, hg5⟩ := own_some (unhide N5) (by omega); subst ev5)
          clear c0 c1 c2 c3 t2 T3 T4 O2 X2 B2 B2s
          have n5 : ¬ g5 = bA := unhide ng5 g5 rfl
          have n6 : ¬ bA = g5 := fun e => n5 e.symm
          clear ng5 nA
          go_wp2_with fail
          go_loopw [7] (fun mm wx => ∃ z : Nat, 0 ≤ z ∧ z ≤ L.length ∧ mm = .int .i64 z ∧ Hid (wx.ownsRow w.heap.size 26 4 (.slice (some ⟨g5, 0, none⟩) (L.length + 1) cap5) (L.length + 1) (atomsV (shA L A z))) ∧ Hid (AtomAt wx bA A.x A.n A.t A.y) ∧ Hid (Below w.heap.size w wx)) (fun mm _ => (intOf mm).toNat)
          case atStart => exact ⟨L.length, by omega, Nat.le_refl _, by go_num, N5, X5, B5⟩
          case round =>
            clear N5 X5 B5
            obtain ⟨z, hz1', hz2', rfl, hO5, hX5, hB5⟩ := hrel
            have sL := shA_len (L := L) (s := A) (m := z) hz2'
            have eL : L.length + 1 = (shA L A z).length := sL.symm
            have zb := hide (show w.heap.size ≤ wr.heap.size from (unhide hB5).size)
            obtain ⟨k0, k1, k2', k3⟩ := own_four (unhide hO5) eL z (by omega)
            have z0 := (unhide hO5).frozenAt (z * 4)
            have z1 := (unhide hO5).frozenAt (z * 4 + 1)
            have z2 := (unhide hO5).frozenAt (z * 4 + 2)
            have z3 := (unhide hO5).frozenAt (z * 4 + 3)
            generalize (shA L A z)[z]'(by omega) = Q at k0 k1 k2' k3
            have hzl : z < L.length + 1 := by omega
            by_cases hJ : 0 < z
            · obtain ⟨y, hy⟩ : ∃ y, z = y + 1 := ⟨z - 1, by omega⟩
              have hyL : y < L.length := by omega
              have dJ : decide (((0 : Nat) : Int) < (z : Int)) = true := decide_eq_true (by omega)
              obtain ⟨r0, r1, r2, r3⟩ := own_four (unhide hO5) eL y (by omega)
              have eg : (shA L A z)[y]'(by omega) = L[y] := by subst hy; exact shA_pred hyL
              rw [eg] at r0 r1 r2 r3
              have St := hide (own_store4 (unhide hO5) z L[y] (by omega))
              have es : (shA L A z).set z L[y] = shA L A y := by subst hy; exact shA_step hyL
              rw [es] at St
              have ej : IntKind.i64.wrap ((z : Int) - 1) = (y : Int) := by rw [IntKind.wrap_i64]; omega
              have X6 := hide ((unhide hX5).grownA (unhide St).2 (fun e => n6 (Option.some.inj e).symm))
              have B6 := hide ((unhide hB5).grown (unhide St).2 (unhide zb) (fun j h => by cases h; exact hg5))
              generalize L[y] = C5 at r0 r1 r2 r3 St X6 B6
              have hy2 : y < L.length + 1 := by omega
              have HY := hide hy
              have mJ : 0 ≤ y ∧ y ≤ L.length ∧ y < z := by omega
              clear hO5 hX5 hB5 eg es hy sL eL
              go_wp2_with fail
              exact ⟨⟨y, mJ.1, mJ.2.1, rfl, hide (unhide St).1, X6, B6⟩, by simp [intOf]; omega⟩
            · have ez : z = 0 := by omega
              have dJ : decide (((0 : Nat) : Int) < (z : Int)) = false := decide_eq_false (by omega)
              have St := hide (own_store4 (unhide hO5) z A (by omega))
              have es : (shA L A z).set z A = insA L A 0 := by rw [ez]; exact shA_end (by omega)
              rw [es] at St
              have B6 := hide ((unhide hB5).grown (unhide St).2 (unhide zb) (fun j h => by cases h; exact hg5))
              obtain ⟨c0, c1, c2, c3, _⟩ := unhide hX5
              have hJL : 0 < L.length + 1 := by omega
              clear hO5 hX5 hB5 es sL eL
              subst ez
              go_wp2_with fail
              exact ⟨⟨k + 1, insA L A _, by omega, by go_num, hide (by rw [LI]; exact (unhide St).1), SI, by omega, B6⟩, by simp [intOf]; omega⟩
        · obtain ⟨m, hm⟩ : ∃ m, q - 1 = m := ⟨_, rfl⟩
          have hmL : m < L.length := by omega
          obtain ⟨g3, cp, e3, hg3⟩ := own_some (unhide O2) (by omega)
          cases e3
          obtain ⟨C, hC⟩ : ∃ C, L[m] = C := ⟨_, rfl⟩
          have qc := hide (fun w => AtomT.isCmp C A (by rw [← hC]; exact unhide OKL _ (List.getElem_mem hmL)) w)
          have ej : IntKind.i64.wrap ((q : Int) - 1) = (m : Int) := by rw [IntKind.wrap_i64]; omega
          have dq : decide ((0 : Int) < (q : Int)) = true := decide_eq_true (by omega)
          have GU := hide (show 0 < C.cmp A → ∀ i (hi : i < L.length), m ≤ i → 0 < L[i].cmp A from fun h i hi h1 => by
            by_cases e : i = m
            · subst e; rw [hC]; exact h
            · exact unhide GT i hi (by omega))
          have SL := hide (show C.cmp A < 0 → SetR (l.take (k + 1)) (insA L A q) from fun h => unhide SA q hq (unhide GT) (fun _ h1 => by
            have : L[q - 1]'h1 = C := by rw [← hC]; congr 1
            rw [this]; exact h))
          have SE := hide (show C.cmp A = 0 → SetR (l.take (k + 1)) L from fun h => unhide SB (by rw [← ord_A.zero _ _ h, ← hC]; exact List.getElem_mem hmL))
          have mq : m < q := by omega
          have HM := hide hm
          clear hm SA SB GT
          generalize hV : C.cmp A = V at qc GU SL SE
          clear hV
          have ne : Nonempty (Kept wr) := ⟨⟨wr, Below.refl _ _⟩⟩
          have x0 := fun u : Kept wr => ((unhide X2).kept u).c0
          have x1 := fun u : Kept wr => ((unhide X2).kept u).c1
          have x2 := fun u : Kept wr => ((unhide X2).kept u).c2
          have x3 := fun u : Kept wr => ((unhide X2).kept u).c3
          obtain ⟨p0, p1, p2, p3⟩ := own_four (unhide O2) rfl m hmL
          rw [hC] at p0 p1 p2 p3
          have zg : g3 < wr.heap.size := ((unhide O2).lt g3 rfl).2
          have y0 := kept_cell (W := wr) (p := ⟨g3, m * 4, none⟩) zg p0
          have y1 := kept_cell (W := wr) (p := ⟨g3, m * 4 + 1, none⟩) zg p1
          have y2 := kept_cell (W := wr) (p := ⟨g3, m * 4 + 2, none⟩) zg p2
          have y3 := kept_cell (W := wr) (p := ⟨g3, m * 4 + 3, none⟩) zg p3
          clear p0 p1 p2 p3
          go_wp2_with fail
          refine wp_region_kept (by kernel_rfl) (by kernel_rfl) ?_
          repeat (first
            | go_big_quiet_step ((go_at_call 22; exact kept_call (unhide qc _)))
            | quiet_step ((go_at_call 22; exact kept_call (unhide qc _))))
          refine wpQuiet_nil ?_
          rintro _ ⟨u1, rfl⟩
          clear ne x0 x1 x2 x3 y0 y1 y2 y3 zg
          have B7 := hide (bTr (unhide hB1) u1.h)
          replace O2 := hide (own_keepT (unhide O2) u1.h)
          replace X2 := hide ((unhide X2).keep u1.h)
          replace B2 := hide (bTr (unhide B2) u1.h)
          obtain ⟨W2, hW2⟩ : ∃ W2, u1.w = W2 := ⟨_, rfl⟩
          rw [hW2] at O2 X2 B2 B7 ⊢
          clear hW2 hB1
          rcases Int.lt_trichotomy V 0 with hv | hv | hv
          · have dv : decide ((0 : Int) < V) = false := decide_eq_false (by omega)
            have SI := hide (unhide SL hv)
            have ev : (V == 0) = false := by simp; omega
            clear GU SL SE B7
            go_wp2_with fail
            have ne : Nonempty (Kept W2) := ⟨⟨W2, Below.refl _ _⟩⟩
            have x0 := fun u : Kept W2 => ((unhide X2).kept u).c0
            have x1 := fun u : Kept W2 => ((unhide X2).kept u).c1
            have x2 := fun u : Kept W2 => ((unhide X2).kept u).c2
            have x3 := fun u : Kept W2 => ((unhide X2).kept u).c3
            obtain ⟨p0, p1, p2, p3⟩ := own_four (unhide O2) rfl m hmL
            rw [hC] at p0 p1 p2 p3
            have zg : g3 < W2.heap.size := ((unhide O2).lt g3 rfl).2
            have y0 := kept_cell (W := W2) (p := ⟨g3, m * 4, none⟩) zg p0
            have y1 := kept_cell (W := W2) (p := ⟨g3, m * 4 + 1, none⟩) zg p1
            have y2 := kept_cell (W := W2) (p := ⟨g3, m * 4 + 2, none⟩) zg p2
            have y3 := kept_cell (W := W2) (p := ⟨g3, m * 4 + 3, none⟩) zg p3
            clear p0 p1 p2 p3
            refine wp_region_kept (by kernel_rfl) (by kernel_rfl) ?_
            repeat (first
              | go_big_quiet_step ((go_at_call 22; exact kept_call (unhide qc _)))
              | quiet_step ((go_at_call 22; exact kept_call (unhide qc _))))
            refine wpQuiet_nil ?_
            rintro _ ⟨u2, rfl⟩
            clear ne x0 x1 x2 x3 y0 y1 y2 y3 zg
            replace O2 := hide (own_keepT (unhide O2) u2.h)
            replace X2 := hide ((unhide X2).keep u2.h)
            replace B2 := hide (bTr (unhide B2) u2.h)
            obtain ⟨W3, hW3⟩ : ∃ W3, u2.w = W3 := ⟨_, rfl⟩
            rw [hW3] at O2 X2 B2 ⊢
            clear hW3
            have LI := insA_len (L := L) (s := A) (j := q) (by omega)
            have t2 := hide (cell_four_new W3 (cellsA A) 26)
            have T3 := hide (show ∀ u ∈ cellsA A, u.oneCell' = true from fun u hu => by simp [cellsA] at hu; rcases hu with rfl | rfl | rfl | rfl <;> rfl)
            have t5 : (L.length + 1) * 48 ≤ 140737488355328 := by omega
            have B2s := (unhide B2).size
            have T4 := hide (show w.heap.size ≤ (W3.alloc (.cells #[.int .i64 A.x, .int .i64 A.n, .string A.t, .string A.y] 26)).heap.size by simp; omega)
            have nA := hide (show ∀ g, (Value.slice (some ⟨g3, 0, none⟩) L.length cap3).ownBlock = some g → g < bA from unhide LT3)
            have lA : bA < W3.heap.size := (unhide X2).z
            obtain ⟨c0, c1, c2, c3, _⟩ := unhide X2
            go_wp2_with (at_builtin; refine wpList_append_own_at _ rfl _ _ 23 rfl w.heap.size 26 i0 _ 4 48 Try.underlying23 hi hz0 hz1 hz2 rfl (by decide) _ _ _ rfl ((unhide O2).alloc _) ⟨_, 0, none⟩ 1 1 (cellsA A) rfl rfl (unhide t2) (unhide T3) (by unfold maxLen; omega) t5 (unhide T4) ?_; intro v5 w5 hown5 hgrow5 _ hat5; have N5 := hide (show w5.ownsRow w.heap.size 26 4 v5 (L.length + 1) (atomsV (shA L A L.length)) by rw [shA_start, atomsV_snoc]; exact hown5); have X5 := hide (((unhide X2).more (.cells #[.int .i64 A.x, .int .i64 A.n, .string A.t, .string A.y] 26)).grownA hgrow5 (fun e => Nat.lt_irrefl _ (unhide nA _ e))); have B5 := hide ((bAl (unhide B2) (.cells #[.int .i64 A.x, .int .i64 A.n, .string A.t, .string A.y] 26)).grown hgrow5 (by simp; omega) (fun j hj => ((unhide O2).lt j hj).1)); have ng5 := hide (show ∀ g, v5.ownBlock = some g → g ≠ bA from fun g e => by rcases hat5 with h | h; exact Nat.ne_of_lt (unhide nA g (h.symm.trans e)); (have e2 := h.symm.trans e; simp at e2; omega)); clear hown5 hgrow5 hat5; obtain ⟨g5, cap5, ev5, hg5⟩ := own_some (unhide N5) (by omega); subst ev5)
            clear c0 c1 c2 c3 t2 T3 T4 O2 X2 B2 B2s
            have n5 : ¬ g5 = bA := unhide ng5 g5 rfl
            have n6 : ¬ bA = g5 := fun e => n5 e.symm
            clear ng5 nA
            go_wp2_with fail
            go_loopw [7] (fun mm wx => ∃ z : Nat, q ≤ z ∧ z ≤ L.length ∧ mm = .int .i64 z ∧ Hid (wx.ownsRow w.heap.size 26 4 (.slice (some ⟨g5, 0, none⟩) (L.length + 1) cap5) (L.length + 1) (atomsV (shA L A z))) ∧ Hid (AtomAt wx bA A.x A.n A.t A.y) ∧ Hid (Below w.heap.size w wx)) (fun mm _ => (intOf mm).toNat)
            case atStart => exact ⟨L.length, by omega, Nat.le_refl _, by go_num, N5, X5, B5⟩
            case round =>
              clear N5 X5 B5
              obtain ⟨z, hz1', hz2', rfl, hO5, hX5, hB5⟩ := hrel
              have sL := shA_len (L := L) (s := A) (m := z) hz2'
              have eL : L.length + 1 = (shA L A z).length := sL.symm
              have zb := hide (show w.heap.size ≤ wr.heap.size from (unhide hB5).size)
              obtain ⟨k0, k1, k2', k3⟩ := own_four (unhide hO5) eL z (by omega)
              have z0 := (unhide hO5).frozenAt (z * 4)
              have z1 := (unhide hO5).frozenAt (z * 4 + 1)
              have z2 := (unhide hO5).frozenAt (z * 4 + 2)
              have z3 := (unhide hO5).frozenAt (z * 4 + 3)
              generalize (shA L A z)[z]'(by omega) = Q at k0 k1 k2' k3
              have hzl : z < L.length + 1 := by omega
              by_cases hJ : q < z
              · obtain ⟨y, hy⟩ : ∃ y, z = y + 1 := ⟨z - 1, by omega⟩
                have hyL : y < L.length := by omega
                have dJ : decide (((q : Nat) : Int) < (z : Int)) = true := decide_eq_true (by omega)
                obtain ⟨r0, r1, r2, r3⟩ := own_four (unhide hO5) eL y (by omega)
                have eg : (shA L A z)[y]'(by omega) = L[y] := by subst hy; exact shA_pred hyL
                rw [eg] at r0 r1 r2 r3
                have St := hide (own_store4 (unhide hO5) z L[y] (by omega))
                have es : (shA L A z).set z L[y] = shA L A y := by subst hy; exact shA_step hyL
                rw [es] at St
                have ej : IntKind.i64.wrap ((z : Int) - 1) = (y : Int) := by rw [IntKind.wrap_i64]; omega
                have X6 := hide ((unhide hX5).grownA (unhide St).2 (fun e => n6 (Option.some.inj e).symm))
                have B6 := hide ((unhide hB5).grown (unhide St).2 (unhide zb) (fun j h => by cases h; exact hg5))
                generalize L[y] = C5 at r0 r1 r2 r3 St X6 B6
                have hy2 : y < L.length + 1 := by omega
                have HY := hide hy
                have mJ : q ≤ y ∧ y ≤ L.length ∧ y < z := by omega
                clear hO5 hX5 hB5 eg es hy sL eL
                go_wp2_with fail
                exact ⟨⟨y, mJ.1, mJ.2.1, rfl, hide (unhide St).1, X6, B6⟩, by simp [intOf]; omega⟩
              · have ez : z = q := by omega
                have dJ : decide (((q : Nat) : Int) < (z : Int)) = false := decide_eq_false (by omega)
                have St := hide (own_store4 (unhide hO5) z A (by omega))
                have es : (shA L A z).set z A = insA L A q := by rw [ez]; exact shA_end (by omega)
                rw [es] at St
                have B6 := hide ((unhide hB5).grown (unhide St).2 (unhide zb) (fun j h => by cases h; exact hg5))
                obtain ⟨c0, c1, c2, c3, _⟩ := unhide hX5
                have hJL : q < L.length + 1 := by omega
                clear hO5 hX5 hB5 es sL eL
                subst ez
                go_wp2_with fail
                exact ⟨⟨k + 1, insA L A _, by omega, by go_num, hide (by rw [LI]; exact (unhide St).1), SI, by omega, B6⟩, by simp [intOf]; omega⟩
          · subst hv
            have dv : decide ((0 : Int) < 0) = false := rfl
            have SI := hide (unhide SE rfl)
            clear GU SL SE B7
            go_wp2_with fail
            have ne : Nonempty (Kept W2) := ⟨⟨W2, Below.refl _ _⟩⟩
            have x0 := fun u : Kept W2 => ((unhide X2).kept u).c0
            have x1 := fun u : Kept W2 => ((unhide X2).kept u).c1
            have x2 := fun u : Kept W2 => ((unhide X2).kept u).c2
            have x3 := fun u : Kept W2 => ((unhide X2).kept u).c3
            obtain ⟨p0, p1, p2, p3⟩ := own_four (unhide O2) rfl m hmL
            rw [hC] at p0 p1 p2 p3
            have zg : g3 < W2.heap.size := ((unhide O2).lt g3 rfl).2
            have y0 := kept_cell (W := W2) (p := ⟨g3, m * 4, none⟩) zg p0
            have y1 := kept_cell (W := W2) (p := ⟨g3, m * 4 + 1, none⟩) zg p1
            have y2 := kept_cell (W := W2) (p := ⟨g3, m * 4 + 2, none⟩) zg p2
            have y3 := kept_cell (W := W2) (p := ⟨g3, m * 4 + 3, none⟩) zg p3
            clear p0 p1 p2 p3
            refine wp_region_kept (by kernel_rfl) (by kernel_rfl) ?_
            repeat (first
              | go_big_quiet_step ((go_at_call 22; exact kept_call (unhide qc _)))
              | quiet_step ((go_at_call 22; exact kept_call (unhide qc _))))
            refine wpQuiet_nil ?_
            rintro _ ⟨u2, rfl⟩
            have O8 := hide (own_keepT (unhide O2) u2.h)
            have B8 := hide (bTr (unhide B2) u2.h)
            go_wp2_with fail
            exact ⟨⟨k + 1, L, by omega, by go_num, O8, SI, by omega, B8⟩, by simp [intOf]; omega⟩
          · have dv : decide ((0 : Int) < V) = true := decide_eq_true hv
            have G2 := hide (unhide GU hv)
            clear GU SL SE
            go_wp2_with fail
            exact ⟨⟨m, by omega, rfl, G2, B7⟩, by simp [intOf]; omega⟩
    · have ek : k = l.length := by rw [← unhide HL]; omega
      subst ek
      have fin := hide (show SetR l L by have := unhide hR; rwa [List.take_length] at this)
      go_wp2_with fail
      go_ret
      exact ⟨⟨_, L, rfl, hide ⟨unhide fin, unhide hO⟩⟩, unhide hB⟩
end Go.Proofs.Ytlnmhjihfolliaa.V
