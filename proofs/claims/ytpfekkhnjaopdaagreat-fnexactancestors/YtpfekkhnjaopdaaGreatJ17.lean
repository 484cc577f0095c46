/- NSr, GMap, one behind the other. -/
import Derived.Test.YtpfekkhnjaopdaaGreatJ16
import Derived.Test.YtpfekkhnjaopdaaGreatJ0
import Derived.Maps.OwnOps
import Derived.Maps.OwnSet
import Derived.Maps.RangeWalk
import Derived.StringKeys
import Derived.DeepKeys4
/- spec.l1Sorted. -/
namespace Go.Proofs.YtpfekkhnjaopdaaGreat.V
open Go.RowKit
set_option maxRecDepth 20000
set_option linter.unusedVariables false
theorem own_some {w : World} {base e size : Nat} {v : Value} {n : Nat} {xs : List Value} (h : w.ownsRow base e size v n xs) (hn : 0 < n) : ∃ g cap, v = .slice (some ⟨g, 0, none⟩) n cap ∧ base ≤ g := by
  rcases h.2 with ⟨rfl, rfl⟩ | ⟨g, cap, cur, rfl, hb, _⟩
  · omega
  · exact ⟨g, cap, rfl, hb⟩
theorem info_atomN : (Tryz.prog.info? 31).map (fun i => (i.zero, i.size, i.bytes)) = some (some (.agg #[.int .i64 0, .int .i64 0, .string ByteArray.empty, .string ByteArray.empty]), 4, 48) := by kernel_rfl
theorem info_partsN {P : Program} {t : TypeId} {z : Value} {n b : Nat} (h : (P.info? t).map (fun i => (i.zero, i.size, i.bytes)) = some (some z, n, b)) : ∃ i, P.info? t = some i ∧ i.zero = some z ∧ i.size = n ∧ i.bytes = b := by
  obtain ⟨i, hi, he⟩ := Option.map_eq_some_iff.1 h
  simp only [Prod.mk.injEq] at he
  exact ⟨i, hi, he.1, he.2.1, he.2.2⟩
theorem AtomAt.grownA {w w' : World} {b : Nat} {x n : Int} {t y : ByteArray} {r : Option Nat} (h : AtomAt w b x n t y) (hg : w.grownBy w' r) (hne : r ≠ some b) : AtomAt w' b x n t y := by
  have f : ∀ o, w'.cell? ⟨b, o, none⟩ = w.cell? ⟨b, o, none⟩ := fun o => World.cell?_of_block (hg.block b h.z (fun e => hne e.symm))
  exact ⟨(f 0).trans h.c0, (f 1).trans h.c1, (f 2).trans h.c2, (f 3).trans h.c3, Nat.lt_of_lt_of_le h.z hg.size⟩
set_option maxHeartbeats 8000000 in
theorem l1Sorted_any (a : Option Addr) (len cap : Nat) (l : List AtomT) (w : World) (hl : len ≤ 20000) (hs : SlA w a len l) (hok : ∀ q ∈ l, AtomT.Ok q) :
    Calls Tryz.prog 48 #[.slice a len cap] w fun e w' => (∃ v r, e = .returned v ∧ Hid (SetR l r ∧ w'.ownsRow w.heap.size 31 4 v r.length (atomsV r))) ∧ Below w.heap.size w w' := by
  obtain ⟨i0, hi, hz0, hz1, hz2⟩ := info_partsN info_atomN
  have HS := hide hs
  have HO := hide hok
  have HL := hide hs.1
  clear hs hok
  go_enter Tryz.func48, Tryz.ntmps48
  go_wp2_with fail
  go_loopw [3, 10] (fun v i wr => ∃ (k : Nat) (L : List AtomT), k ≤ len ∧ i = .int .i64 k ∧ Hid (wr.ownsRow w.heap.size 31 4 v L.length (atomsV L)) ∧ Hid (SetR (l.take k) L) ∧ L.length ≤ k ∧ Hid (Below w.heap.size w wr)) (fun _ i _ => len - (intOf i).toNat)
  case atStart => exact ⟨0, [], Nat.zero_le _, rfl, hide (World.ownsRow_nil _ _ _ _), hide SetR.nil, Nat.le_refl _, hide (Below.refl _ _)⟩
  case round =>
    obtain ⟨k, L, hk, rfl, hO, hR, hLk, hB⟩ := hrel
    obtain ⟨a3, cap3, e3⟩ := own_sl (unhide hO)
    subst e3
    by_cases hlt : k < len
    · have hk' : k < l.length := by rw [← unhide HL]; exact hlt
      obtain ⟨b, off, rfl, hrow⟩ := ((unhide HS).keep (unhide hB)).at hlt
      obtain ⟨o0, o1, o2, o3⟩ := hrow.c k hk'
      have SA := hide (show ∀ j, j ≤ L.length → (∀ i (hi : i < L.length), j ≤ i → 0 < L[i].cmp l[k]) → (∀ (h0 : 0 < j) (h1 : j - 1 < L.length), (L[j - 1]'h1).cmp l[k] < 0) → SetR (l.take (k + 1)) (insA L l[k] j) from fun j h1 h2 h3 => by rw [List.take_succ_eq_append_getElem hk']; exact (unhide hR).ins h1 h2 (fun h0 => h3 h0 (by omega)))
      have SB := hide (show l[k] ∈ L → SetR (l.take (k + 1)) L from fun h => by rw [List.take_succ_eq_append_getElem hk']; exact (unhide hR).again (((unhide hR).mem _).1 h))
      have OKL := hide (show ∀ x ∈ L, AtomT.Ok x from fun x hx => unhide HO x (List.mem_of_mem_take (((unhide hR).mem x).1 hx)))
      have OKA := hide (unhide HO _ (List.getElem_mem hk'))
      clear hrow hR
      generalize l[k] = A at o0 o1 o2 o3 SA SB OKA
      obtain ⟨bA, hbA⟩ : ∃ bA, wr.heap.size = bA := ⟨_, rfl⟩
      have LT3 := hide (show ∀ g, (Value.slice a3 L.length cap3).ownBlock = some g → g < bA from fun g e => by rw [← hbA]; exact ((unhide hO).lt g e).2)
      obtain ⟨W0, hW0⟩ : ∃ W0, W0 = wr.alloc (.cells #[.int .i64 A.x, .int .i64 A.n, .string A.t, .string A.y] 31) := ⟨_, rfl⟩
      have O0 := hide (show W0.ownsRow w.heap.size 31 4 (.slice a3 L.length cap3) L.length (atomsV L) by rw [hW0]; exact (unhide hO).alloc _)
      have XA := hide (show AtomAt W0 bA A.x A.n A.t A.y by rw [hW0, ← hbA]; exact AtomAt.new wr _ _ _ _ _)
      have B0 := hide (show Below w.heap.size w W0 by rw [hW0]; exact bAl (unhide hB) _)
      have HW := hide hW0.symm
      have HBA := hide hbA
      clear hW0 hO hB hbA
      go_wp2_with fail
      rw [unhide HW, unhide HBA]
      clear HW HBA o0 o1 o2 o3
      go_loopw [6] (fun j wx => ∃ q : Nat, q ≤ L.length ∧ j = .int .i64 q ∧ Hid (∀ i (hi : i < L.length), q ≤ i → 0 < L[i].cmp A) ∧ Hid (Below W0.heap.size W0 wx)) (fun j _ => (intOf j).toNat)
      case atStart => exact ⟨L.length, Nat.le_refl _, rfl, hide (fun i hi h => absurd hi (by omega)), hide (Below.refl _ _)⟩
      case round =>
        obtain ⟨q, hq, rfl, GT, hB1⟩ := hrel
        have O2 := hide (own_keepT (unhide O0) (unhide hB1))
        have X2 := hide ((unhide XA).keep (unhide hB1))
        have B2 := hide (bTr (unhide B0) (unhide hB1))
        rcases Nat.eq_zero_or_pos q with hq0 | hq0
        · subst hq0
          have SI := hide (unhide SA 0 (by omega) (unhide GT) (fun h => absurd h (Nat.lt_irrefl _)))
          have dj : decide ((0 : Int) < 0) = false := by simp
          clear GT hB1 SA SB
          have ne : Nonempty (Kept wr) := ⟨⟨wr, Below.refl _ _⟩⟩
          have x0 := fun u : Kept wr => ((unhide X2).kept u).c0
          have x1 := fun u : Kept wr => ((unhide X2).kept u).c1
          have x2 := fun u : Kept wr => ((unhide X2).kept u).c2
          have x3 := fun u : Kept wr => ((unhide X2).kept u).c3
          go_wp2_with fail
          refine wp_region_kept (by kernel_rfl) (by kernel_rfl) ?_
          repeat (first
            | go_big_quiet_step (fail)
            | quiet_step (fail))
          refine wpQuiet_nil ?_
          rintro _ ⟨u1, rfl⟩
          clear ne x0 x1 x2 x3
          replace O2 := hide (own_keepT (unhide O2) u1.h)
          replace X2 := hide ((unhide X2).keep u1.h)
          replace B2 := hide (bTr (unhide B2) u1.h)
          obtain ⟨W2, hW2⟩ : ∃ W2, u1.w = W2 := ⟨_, rfl⟩
          rw [hW2] at O2 X2 B2 ⊢
          clear hW2
          go_wp2_with fail
          have ne : Nonempty (Kept W2) := ⟨⟨W2, Below.refl _ _⟩⟩
          have x0 := fun u : Kept W2 => ((unhide X2).kept u).c0
          have x1 := fun u : Kept W2 => ((unhide X2).kept u).c1
          have x2 := fun u : Kept W2 => ((unhide X2).kept u).c2
          have x3 := fun u : Kept W2 => ((unhide X2).kept u).c3
          refine wp_region_kept (by kernel_rfl) (by kernel_rfl) ?_
          repeat (first
            | go_big_quiet_step (fail)
            | quiet_step (fail))
          refine wpQuiet_nil ?_
          rintro _ ⟨u2, rfl⟩
          clear ne x0 x1 x2 x3
          replace O2 := hide (own_keepT (unhide O2) u2.h)
          replace X2 := hide ((unhide X2).keep u2.h)
          replace B2 := hide (bTr (unhide B2) u2.h)
          obtain ⟨W3, hW3⟩ : ∃ W3, u2.w = W3 := ⟨_, rfl⟩
          rw [hW3] at O2 X2 B2 ⊢
          clear hW3
          have LI := insA_len (L := L) (s := A) (j := 0) (by omega)
          have t2 := hide (cell_four_new W3 (cellsA A) 31)
          have T3 := hide (show ∀ u ∈ cellsA A, u.oneCell' = true from fun u hu => by simp [cellsA] at hu; rcases hu with rfl | rfl | rfl | rfl <;> rfl)
          have t5 : (L.length + 1) * 48 ≤ 140737488355328 := by omega
          have B2s := (unhide B2).size
          have T4 := hide (show w.heap.size ≤ (W3.alloc (.cells #[.int .i64 A.x, .int .i64 A.n, .string A.t, .string A.y] 31)).heap.size by simp; omega)
          have nA := hide (show ∀ g, (Value.slice a3 L.length cap3).ownBlock = some g → g < bA from unhide LT3)
          have lA : bA < W3.heap.size := (unhide X2).z
          obtain ⟨c0, c1, c2, c3, _⟩ := unhide X2
          go_wp2_with (at_builtin; refine wpList_append_own_at _ rfl _ _ 27 rfl w.heap.size 31 i0 _ 4 48 Tryz.underlying27 hi hz0 hz1 hz2 rfl (by decide) _ _ _ rfl ((unhide O2).alloc _) ⟨_, 0, none⟩ 1 1 (cellsA A) rfl rfl (unhide t2) (unhide T3) (by unfold maxLen; omega) t5 (unhide T4) ?_; intro v5 w5 hown5 hgrow5 _ hat5; have N5 := hide (show w5.ownsRow w.heap.size 31 4 v5 (L.length + 1) (atomsV (shA L A L.length)) by rw [shA_start, atomsV_snoc]; exact hown5); have X5 := hide (((unhide X2).more (.cells #[.int .i64 A.x, .int .i64 A.n, .string A.t, .string A.y] 31)).grownA hgrow5 (fun e => Nat.lt_irrefl _ (unhide nA _ e))); have B5 := hide ((bAl (unhide B2) (.cells #[.int .i64 A.x, .int .i64 A.n, .string A.t, .string A.y] 31)).grown hgrow5 (by simp; omega) (fun j hj => ((unhide O2).lt j hj).1)); have ng5 := hide (show ∀ g, v5.ownBlock = some g → g ≠ bA from fun g e => by rcases hat5 with h | h; exact Nat.ne_of_lt (unhide nA g (h.symm.trans e)); (have e2 := h.symm.trans e; simp at e2; omega)); clear hown5 hgrow5 hat5; obtain ⟨g5, cap5, ev5, hg5⟩ := own_some (unhide N5) (by omega); subst ev5)
          clear c0 c1 c2 c3 t2 T3 T4 O2 X2 B2 B2s
          have n5 : ¬ g5 = bA := unhide ng5 g5 rfl
          have n6 : ¬ bA = g5 := fun e => n5 e.symm
          clear ng5 nA
          go_wp2_with fail
          go_loopw [7] (fun mm wx => ∃ z : Nat, 0 ≤ z ∧ z ≤ L.length ∧ mm = .int .i64 z ∧ Hid (wx.ownsRow w.heap.size 31 4 (.slice (some ⟨g5, 0, none⟩) (L.length + 1) cap5) (L.length + 1) (atomsV (shA L A z))) ∧ Hid (AtomAt wx bA A.x A.n A.t A.y) ∧ Hid (Below w.heap.size w wx)) (fun mm _ => (intOf mm).toNat)
          case atStart => exact ⟨L.length, by omega, Nat.le_refl _, by go_num, N5, X5, B5⟩
          case round =>
            clear N5 X5 B5
            obtain ⟨z, hz1', hz2', rfl, hO5, hX5, hB5⟩ := hrel
            have sL := shA_len (L := L) (s := A) (m := z) hz2'
            have eL : L.length + 1 = (shA L A z).length := sL.symm
            have zb := hide (show w.heap.size ≤ wr.heap.size from (unhide hB5).size)
            obtain ⟨k0, k1, k2', k3⟩ := own_four (unhide hO5) eL z (by omega)
            have z0 := (unhide hO5).frozenAt (z * 4)
            have z1 := (unhide hO5).frozenAt (z * 4 + 1)
            have z2 := (unhide hO5).frozenAt (z * 4 + 2)
            have z3 := (unhide hO5).frozenAt (z * 4 + 3)
            generalize (shA L A z)[z]'(by omega) = Q at k0 k1 k2' k3
            have hzl : z < L.length + 1 := by omega
            by_cases hJ : 0 < z
            · obtain ⟨y, hy⟩ : ∃ y, z = y + 1 := ⟨z - 1, by omega⟩
              have hyL : y < L.length := by omega
              have dJ : decide (((0 : Nat) : Int) < (z : Int)) = true := decide_eq_true (by omega)
              obtain ⟨r0, r1, r2, r3⟩ := own_four (unhide hO5) eL y (by omega)
              have eg : (shA L A z)[y]'(by omega) = L[y] := by subst hy; exact shA_pred hyL
              rw [eg] at r0 r1 r2 r3
              have St := hide (own_store4 (unhide hO5) z L[y] (by omega))
              have es : (shA L A z).set z L[y] = shA L A y := by subst hy; exact shA_step hyL
              rw [es] at St
              have ej : IntKind.i64.wrap ((z : Int) - 1) = (y : Int) := by rw [IntKind.wrap_i64]; omega
              have X6 := hide ((unhide hX5).grownA (unhide St).2 (fun e => n6 (Option.some.inj e).symm))
              have B6 := hide ((unhide hB5).grown (unhide St).2 (unhide zb) (fun j h => by cases h; exact hg5))
              generalize L[y] = C5 at r0 r1 r2 r3 St X6 B6
              have hy2 : y < L.length + 1 := by omega
              have HY := hide hy
              have mJ : 0 ≤ y ∧ y ≤ L.length ∧ y < z := by omega
              clear hO5 hX5 hB5 eg es hy sL eL
              go_wp2_with fail
              exact ⟨⟨y, mJ.1, mJ.2.1, rfl, hide (unhide St).1, X6, B6⟩, by simp [intOf]; omega⟩
            · have ez : z = 0 := by omega
              have dJ : decide (((0 : Nat) : Int) < (z : Int)) = false := decide_eq_false (by omega)
              have St := hide (own_store4 (unhide hO5) z A (by omega))
              have es : (shA L A z).set z A = insA L A 0 := by rw [ez]; exact shA_end (by omega)
              rw [es] at St
              have B6 := hide ((unhide hB5).grown (unhide St).2 (unhide zb) (fun j h => by cases h; exact hg5))
              obtain ⟨c0, c1, c2, c3, _⟩ := unhide hX5
              have hJL : 0 < L.length + 1 := by omega
              clear hO5 hX5 hB5 es sL eL
              subst ez
              go_wp2_with fail
              exact ⟨⟨k + 1, insA L A _, by omega, by go_num, hide (by rw [LI]; exact (unhide St).1), SI, by omega, B6⟩, by simp [intOf]; omega⟩
        · obtain ⟨m, hm⟩ : ∃ m, q - 1 = m := ⟨_, rfl⟩
          have hmL : m < L.length := by omega
          obtain ⟨g3, cp, e3, hg3⟩ := own_some (unhide O2) (by omega)
          cases e3
          obtain ⟨C, hC⟩ : ∃ C, L[m] = C := ⟨_, rfl⟩
          have qc := hide (fun w => AtomT.isCmp C A (by rw [← hC]; exact unhide OKL _ (List.getElem_mem hmL)) w)
          have ej : IntKind.i64.wrap ((q : Int) - 1) = (m : Int) := by rw [IntKind.wrap_i64]; omega
          have dq : decide ((0 : Int) < (q : Int)) = true := decide_eq_true (by omega)
          have GU := hide (show 0 < C.cmp A → ∀ i (hi : i < L.length), m ≤ i → 0 < L[i].cmp A from fun h i hi h1 => by
            by_cases e : i = m
            · subst e; rw [hC]; exact h
            · exact unhide GT i hi (by omega))
          have SL := hide (show C.cmp A < 0 → SetR (l.take (k + 1)) (insA L A q) from fun h => unhide SA q hq (unhide GT) (fun _ h1 => by
            have : L[q - 1]'h1 = C := by rw [← hC]; congr 1
            rw [this]; exact h))
          have SE := hide (show C.cmp A = 0 → SetR (l.take (k + 1)) L from fun h => unhide SB (by rw [← ord_A.zero _ _ h, ← hC]; exact List.getElem_mem hmL))
          have mq : m < q := by omega
          have HM := hide hm
          clear hm SA SB GT
          generalize hV : C.cmp A = V at qc GU SL SE
          clear hV
          have ne : Nonempty (Kept wr) := ⟨⟨wr, Below.refl _ _⟩⟩
          have x0 := fun u : Kept wr => ((unhide X2).kept u).c0
          have x1 := fun u : Kept wr => ((unhide X2).kept u).c1
          have x2 := fun u : Kept wr => ((unhide X2).kept u).c2
          have x3 := fun u : Kept wr => ((unhide X2).kept u).c3
          obtain ⟨p0, p1, p2, p3⟩ := own_four (unhide O2) rfl m hmL
          rw [hC] at p0 p1 p2 p3
          have zg : g3 < wr.heap.size := ((unhide O2).lt g3 rfl).2
          have y0 := kept_cell (W := wr) (p := ⟨g3, m * 4, none⟩) zg p0
          have y1 := kept_cell (W := wr) (p := ⟨g3, m * 4 + 1, none⟩) zg p1
          have y2 := kept_cell (W := wr) (p := ⟨g3, m * 4 + 2, none⟩) zg p2
          have y3 := kept_cell (W := wr) (p := ⟨g3, m * 4 + 3, none⟩) zg p3
          clear p0 p1 p2 p3
          go_wp2_with fail
          refine wp_region_kept (by kernel_rfl) (by kernel_rfl) ?_
          repeat (first
            | go_big_quiet_step ((go_at_call 43; exact kept_call (unhide qc _)))
            | quiet_step ((go_at_call 43; exact kept_call (unhide qc _))))
          refine wpQuiet_nil ?_
          rintro _ ⟨u1, rfl⟩
          clear ne x0 x1 x2 x3 y0 y1 y2 y3 zg
          have B7 := hide (bTr (unhide hB1) u1.h)
          replace O2 := hide (own_keepT (unhide O2) u1.h)
          replace X2 := hide ((unhide X2).keep u1.h)
          replace B2 := hide (bTr (unhide B2) u1.h)
          obtain ⟨W2, hW2⟩ : ∃ W2, u1.w = W2 := ⟨_, rfl⟩
          rw [hW2] at O2 X2 B2 B7 ⊢
          clear hW2 hB1
          rcases Int.lt_trichotomy V 0 with hv | hv | hv
          · have dv : decide ((0 : Int) < V) = false := decide_eq_false (by omega)
            have SI := hide (unhide SL hv)
            have ev : (V == 0) = false := by simp; omega
            clear GU SL SE B7
            go_wp2_with fail
            have ne : Nonempty (Kept W2) := ⟨⟨W2, Below.refl _ _⟩⟩
            have x0 := fun u : Kept W2 => ((unhide X2).kept u).c0
            have x1 := fun u : Kept W2 => ((unhide X2).kept u).c1
            have x2 := fun u : Kept W2 => ((unhide X2).kept u).c2
            have x3 := fun u : Kept W2 => ((unhide X2).kept u).c3
            obtain ⟨p0, p1, p2, p3⟩ := own_four (unhide O2) rfl m hmL
            rw [hC] at p0 p1 p2 p3
            have zg : g3 < W2.heap.size := ((unhide O2).lt g3 rfl).2
            have y0 := kept_cell (W := W2) (p := ⟨g3, m * 4, none⟩) zg p0
            have y1 := kept_cell (W := W2) (p := ⟨g3, m * 4 + 1, none⟩) zg p1
            have y2 := kept_cell (W := W2) (p := ⟨g3, m * 4 + 2, none⟩) zg p2
            have y3 := kept_cell (W := W2) (p := ⟨g3, m * 4 + 3, none⟩) zg p3
            clear p0 p1 p2 p3
            refine wp_region_kept (by kernel_rfl) (by kernel_rfl) ?_
            repeat (first
              | go_big_quiet_step ((go_at_call 43; exact kept_call (unhide qc _)))
              | quiet_step ((go_at_call 43; exact kept_call (unhide qc _))))
            refine wpQuiet_nil ?_
            rintro _ ⟨u2, rfl⟩
            clear ne x0 x1 x2 x3 y0 y1 y2 y3 zg
            replace O2 := hide (own_keepT (unhide O2) u2.h)
            replace X2 := hide ((unhide X2).keep u2.h)
            replace B2 := hide (bTr (unhide B2) u2.h)
            obtain ⟨W3, hW3⟩ : ∃ W3, u2.w = W3 := ⟨_, rfl⟩
            rw [hW3] at O2 X2 B2 ⊢
            clear hW3
            have LI := insA_len (L := L) (s := A) (j := q) (by omega)
            have t2 := hide (cell_four_new W3 (cellsA A) 31)
            have T3 := hide (show ∀ u ∈ cellsA A, u.oneCell' = true from fun u hu => by simp [cellsA] at hu; rcases hu with rfl | rfl | rfl | rfl <;> rfl)
            have t5 : (L.length + 1) * 48 ≤ 140737488355328 := by omega
            have B2s := (unhide B2).size
            have T4 := hide (show w.heap.size ≤ (W3.alloc (.cells #[.int .i64 A.x, .int .i64 A.n, .string A.t, .string A.y] 31)).heap.size by simp; omega)
            have nA := hide (show ∀ g, (Value.slice (some ⟨g3, 0, none⟩) L.length cap3).ownBlock = some g → g < bA from unhide LT3)
            have lA : bA < W3.heap.size := (unhide X2).z
            obtain ⟨c0, c1, c2, c3, _⟩ := unhide X2
            go_wp2_with (at_builtin; refine wpList_append_own_at _ rfl _ _ 27 rfl w.heap.size 31 i0 _ 4 48 Tryz.underlying27 hi hz0 hz1 hz2 rfl (by decide) _ _ _ rfl ((unhide O2).alloc _) ⟨_, 0, none⟩ 1 1 (cellsA A) rfl rfl (unhide t2) (unhide T3) (by unfold maxLen; omega) t5 (unhide T4) ?_; intro v5 w5 hown5 hgrow5 _ hat5; have N5 := hide (show w5.ownsRow w.heap.size 31 4 v5 (L.length + 1) (atomsV (shA L A L.length)) by rw [shA_start, atomsV_snoc]; exact hown5); have X5 := hide (((unhide X2).more (.cells #[.int .i64 A.x, .int .i64 A.n, .string A.t, .string A.y] 31)).grownA hgrow5 (fun e => Nat.lt_irrefl _ (unhide nA _ e))); have B5 := hide ((bAl (unhide B2) (.cells #[.int .i64 A.x, .int .i64 A.n, .string A.t, .string A.y] 31)).grown hgrow5 (by simp; omega) (fun j hj => ((unhide O2).lt j hj).1)); have ng5 := hide (show ∀ g, v5.ownBlock = some g → g ≠ bA from fun g e => by rcases hat5 with h | h; exact Nat.ne_of_lt (unhide nA g (h.symm.trans e)); (have e2 := h.symm.trans e; simp at e2; omega)); clear hown5 hgrow5 hat5; obtain ⟨g5, cap5, ev5, hg5⟩ := own_some (unhide N5) (by omega); subst ev5)
            clear c0 c1 c2 c3 t2 T3 T4 O2 X2 B2 B2s
            have n5 : ¬ g5 = bA := unhide ng5 g5 rfl
            have n6 : ¬ bA = g5 := fun e => n5 e.symm
            clear ng5 nA
            go_wp2_with fail
            go_loopw [7] (fun mm wx => ∃ z : Nat, q ≤ z ∧ z ≤ L.length ∧ mm = .int .i64 z ∧ Hid (wx.ownsRow w.heap.size 31 4 (.slice (some ⟨g5, 0, none⟩) (L.length + 1) cap5) (L.length + 1) (atomsV (shA L A z))) ∧ Hid (AtomAt wx bA A.x A.n A.t A.y) ∧ Hid (Below w.heap.size w wx)) (fun mm _ => (intOf mm).toNat)
            case atStart => exact ⟨L.length, by omega, Nat.le_refl _, by go_num, N5, X5, B5⟩
            case round =>
              clear N5 X5 B5
              obtain ⟨z, hz1', hz2', rfl, hO5, hX5, hB5⟩ := hrel
              have sL := shA_len (L := L) (s := A) (m := z) hz2'
              have eL : L.length + 1 = (shA L A z).length := sL.symm
              have zb := hide (show w.heap.size ≤ wr.heap.size from (unhide hB5).size)
              obtain ⟨k0, k1, k2', k3⟩ := own_four (unhide hO5) eL z (by omega)
              have z0 := (unhide hO5).frozenAt (z * 4)
              have z1 := (unhide hO5).frozenAt (z * 4 + 1)
              have z2 := (unhide hO5).frozenAt (z * 4 + 2)
              have z3 := (unhide hO5).frozenAt (z * 4 + 3)
              generalize (shA L A z)[z]'(by omega) = Q at k0 k1 k2' k3
              have hzl : z < L.length + 1 := by omega
              by_cases hJ : q < z
              · obtain ⟨y, hy⟩ : ∃ y, z = y + 1 := ⟨z - 1, by omega⟩
                have hyL : y < L.length := by omega
                have dJ : decide (((q : Nat) : Int) < (z : Int)) = true := decide_eq_true (by omega)
                obtain ⟨r0, r1, r2, r3⟩ := own_four (unhide hO5) eL y (by omega)
                have eg : (shA L A z)[y]'(by omega) = L[y] := by subst hy; exact shA_pred hyL
                rw [eg] at r0 r1 r2 r3
                have St := hide (own_store4 (unhide hO5) z L[y] (by omega))
                have es : (shA L A z).set z L[y] = shA L A y := by subst hy; exact shA_step hyL
                rw [es] at St
                have ej : IntKind.i64.wrap ((z : Int) - 1) = (y : Int) := by rw [IntKind.wrap_i64]; omega
                have X6 := hide ((unhide hX5).grownA (unhide St).2 (fun e => n6 (Option.some.inj e).symm))
                have B6 := hide ((unhide hB5).grown (unhide St).2 (unhide zb) (fun j h => by cases h; exact hg5))
                generalize L[y] = C5 at r0 r1 r2 r3 St X6 B6
                have hy2 : y < L.length + 1 := by omega
                have HY := hide hy
                have mJ : q ≤ y ∧ y ≤ L.length ∧ y < z := by omega
                clear hO5 hX5 hB5 eg es hy sL eL
                go_wp2_with fail
                exact ⟨⟨y, mJ.1, mJ.2.1, rfl, hide (unhide St).1, X6, B6⟩, by simp [intOf]; omega⟩
              · have ez : z = q := by omega
                have dJ : decide (((q : Nat) : Int) < (z : Int)) = false := decide_eq_false (by omega)
                have St := hide (own_store4 (unhide hO5) z A (by omega))
                have es : (shA L A z).set z A = insA L A q := by rw [ez]; exact shA_end (by omega)
                rw [es] at St
                have B6 := hide ((unhide hB5).grown (unhide St).2 (unhide zb) (fun j h => by cases h; exact hg5))
                obtain ⟨c0, c1, c2, c3, _⟩ := unhide hX5
                have hJL : q < L.length + 1 := by omega
                clear hO5 hX5 hB5 es sL eL
                subst ez
                go_wp2_with fail
                exact ⟨⟨k + 1, insA L A _, by omega, by go_num, hide (by rw [LI]; exact (unhide St).1), SI, by omega, B6⟩, by simp [intOf]; omega⟩
          · subst hv
            have dv : decide ((0 : Int) < 0) = false := rfl
            have SI := hide (unhide SE rfl)
            clear GU SL SE B7
            go_wp2_with fail
            have ne : Nonempty (Kept W2) := ⟨⟨W2, Below.refl _ _⟩⟩
            have x0 := fun u : Kept W2 => ((unhide X2).kept u).c0
            have x1 := fun u : Kept W2 => ((unhide X2).kept u).c1
            have x2 := fun u : Kept W2 => ((unhide X2).kept u).c2
            have x3 := fun u : Kept W2 => ((unhide X2).kept u).c3
            obtain ⟨p0, p1, p2, p3⟩ := own_four (unhide O2) rfl m hmL
            rw [hC] at p0 p1 p2 p3
            have zg : g3 < W2.heap.size := ((unhide O2).lt g3 rfl).2
            have y0 := kept_cell (W := W2) (p := ⟨g3, m * 4, none⟩) zg p0
            have y1 := kept_cell (W := W2) (p := ⟨g3, m * 4 + 1, none⟩) zg p1
            have y2 := kept_cell (W := W2) (p := ⟨g3, m * 4 + 2, none⟩) zg p2
            have y3 := kept_cell (W := W2) (p := ⟨g3, m * 4 + 3, none⟩) zg p3
            clear p0 p1 p2 p3
            refine wp_region_kept (by kernel_rfl) (by kernel_rfl) ?_
            repeat (first
              | go_big_quiet_step ((go_at_call 43; exact kept_call (unhide qc _)))
              | quiet_step ((go_at_call 43; exact kept_call (unhide qc _))))
            refine wpQuiet_nil ?_
            rintro _ ⟨u2, rfl⟩
            have O8 := hide (own_keepT (unhide O2) u2.h)
            have B8 := hide (bTr (unhide B2) u2.h)
            go_wp2_with fail
            exact ⟨⟨k + 1, L, by omega, by go_num, O8, SI, by omega, B8⟩, by simp [intOf]; omega⟩
          · have dv : decide ((0 : Int) < V) = true := decide_eq_true hv
            have G2 := hide (unhide GU hv)
            clear GU SL SE
            go_wp2_with fail
            exact ⟨⟨m, by omega, rfl, G2, B7⟩, by simp [intOf]; omega⟩
    · have ek : k = l.length := by rw [← unhide HL]; omega
      subst ek
      have fin := hide (show SetR l L by have := unhide hR; rwa [List.take_length] at this)
      go_wp2_with fail
      go_ret
      exact ⟨⟨_, L, rfl, hide ⟨unhide fin, unhide hO⟩⟩, unhide hB⟩
end Go.Proofs.YtpfekkhnjaopdaaGreat.V
/- Maps by what they hold, whatever the keys; ranges over them. -/
namespace Go.Proofs.YtpfekkhnjaopdaaGreat
open Go.RowKit Go.Maps

/-- How an element of a map reads: as itself. -/
def hvR (v : Value) : Option (DataW Value × List MemPlace) := some (.held v, [])

/-- A kind of keys: of type k, told as enc x where ok x. -/
structure KeyKind (P : Program) (k : TypeId) {α : Type} (enc : α → Value) (ok : α → Prop) : Prop where
  law : Keyed P k
  key : ∀ x, ok x → ∃ kl, keyOf P k (enc x) = some kl
  inv : ∀ v kl, keyOf P k v = some kl → ∃ x, v = enc x ∧ ok x
  inj : ∀ x y, enc x = enc y → x = y

section
variable {P : Program} {k : TypeId} {α : Type} {enc : α → Value} {ok : α → Prop}

/-- D holds m. -/
def KD (P : Program) (k : TypeId) (enc : α → Value) (D : DataW Value) (m : α → Option Value) : Prop := ∀ x kl, keyOf P k (enc x) = some kl → Maps.has D kl = (m x).isSome ∧ ∀ v, m x = some v → ∀ z, D.atKey kl z = .held v
/-- Block b is a map of at most n entries, that holds m. -/
def KM (P : Program) (k : TypeId) (enc : α → Value) (w : World) (b n : Nat) (m : α → Option Value) : Prop := ∃ D : DataW Value, w.ownsMap P k hvR b n D ∧ KD P k enc D m

theorem KM.kept {w w' : World} {b n : Nat} {m : α → Option Value} {row : Option Nat} (h : KM P k enc w b n m) (hg : w.grownBy w' row) (hne : some b ≠ row) : KM P k enc w' b n m := by
  obtain ⟨D, ho, hD⟩ := h; exact ⟨D, ho.kept hg hne, hD⟩
theorem KM.more {w : World} {b n n' : Nat} {m : α → Option Value} (h : KM P k enc w b n m) (hn : n ≤ n') : KM P k enc w b n' m := by
  obtain ⟨D, ho, hD⟩ := h; exact ⟨D, ho.mono hn, hD⟩
theorem KM.lt {w : World} {b n : Nat} {m : α → Option Value} (h : KM P k enc w b n m) : b < w.heap.size := by obtain ⟨D, ho, _⟩ := h; exact ho.lt
theorem KM.made (P : Program) (k : TypeId) (enc : α → Value) (w : World) : KM P k enc (w.alloc (.map #[] 0)) w.heap.size 0 (fun _ => none) :=
  ⟨.map [], World.ownsMap_made _ _ _ _, fun x kl _ => ⟨by simp [Maps.has], fun c h => by cases h⟩⟩
theorem KM.keepB {w w' : World} {b n B : Nat} {m : α → Option Value} (h : KM P k enc w b n m) (hb : Below B w w') (hlt : b < B) : KM P k enc w' b n m := by
  obtain ⟨D, ⟨es, clock, h1, h2⟩, hD⟩ := h
  exact ⟨D, ⟨es, clock, (hb.block b hlt).trans h1, h2⟩, hD⟩
theorem KM.block {w w' : World} {b n : Nat} {m : α → Option Value} (h : KM P k enc w b n m) (hb : w'.heap[b]? = w.heap[b]?) : KM P k enc w' b n m := by
  obtain ⟨D, ⟨es, clock, h1, h2⟩, hD⟩ := h
  exact ⟨D, ⟨es, clock, hb.trans h1, h2⟩, hD⟩
theorem KM.setCell {w : World} {b n : Nat} {m : α → Option Value} (h : KM P k enc w b n m) (b' o' : Nat) (hne : b ≠ b') (u : Value) : KM P k enc (w.setCell ⟨b', o', none⟩ u) b n m := by
  obtain ⟨D, ho, hD⟩ := h; exact ⟨D, ho.setCell hne u, hD⟩

def updK [DecidableEq α] (m : α → Option Value) (x : α) (c : Value) : α → Option Value := fun y => if y = x then some c else m y

theorem kd_atKey {D : DataW Value} {kl : Lit} {m : Option Value} {v z : Value} {ps : List MemPlace} (h1 : Maps.has D kl = m.isSome) (h2 : ∀ c, m = some c → ∀ z, D.atKey kl z = .held c) (h : hvR v = some (D.atKey kl (.held z), ps)) : v = m.getD z := by
  unfold hvR at h
  simp only [Option.some.injEq, Prod.mk.injEq] at h
  cases m with
  | none =>
    rw [Maps.atKey_of_not_has (by rw [h1]; rfl)] at h
    simpa using h.1
  | some c =>
    rw [h2 c rfl] at h
    simpa using h.1

variable (w : World) {ops : Array Oper} {rest : List Oper} {o : Oper} {a : Act} {Q : Exit → Act → World → Prop}

/-- 'v, ok := m[x]'. -/
theorem wpList_look_km (K : KeyKind P k enc ok) (hg : o.guard = none) (m x : Operand) (t : TypeId) (hop : o.op = Op.lookup t m x true) (e : TypeId) (ht : P.underlying t = some (.map k e)) {z : Value} (hz : (zeroValue e).run P w = .ok z w) (b n : Nat) (M : α → Option Value) (hm : a.eval m = .map (some b)) (hk : KM P k enc w b n M)
    (y : α) (hx : a.eval x = enc y) (hy : ok y) (v : Value) (r : Bool) (hv : (M y).getD z = v) (hr : (M y).isSome = r)
    (hK : wpList P ops Q rest (a.put o.dst (.tuple #[v, .bool r])) w) : wpList P ops Q (o :: rest) a w := by
  obtain ⟨D, hown, hD⟩ := hk
  obtain ⟨kl, hkl⟩ := K.key y hy
  refine wpList_lookup_own_ok w hg m x _ hop k e K.law ht hvR hz (.held z) [] rfl b n D hm hown (enc y) kl hx hkl ?_
  intro v' ps hv'
  obtain ⟨h1, h2⟩ := hD y kl hkl
  rw [kd_atKey h1 h2 hv', hv, h1, hr]
  exact hK

/-- 'm[x]'. -/
theorem wpList_get_km (K : KeyKind P k enc ok) (hg : o.guard = none) (m x : Operand) (t : TypeId) (hop : o.op = Op.lookup t m x false) (e : TypeId) (ht : P.underlying t = some (.map k e)) {z : Value} (hz : (zeroValue e).run P w = .ok z w) (b n : Nat) (M : α → Option Value) (hm : a.eval m = .map (some b)) (hk : KM P k enc w b n M)
    (y : α) (hx : a.eval x = enc y) (hy : ok y) (v : Value) (hv : (M y).getD z = v)
    (hK : wpList P ops Q rest (a.put o.dst v) w) : wpList P ops Q (o :: rest) a w := by
  obtain ⟨D, hown, hD⟩ := hk
  obtain ⟨kl, hkl⟩ := K.key y hy
  obtain ⟨v', ps, hrun, hv'⟩ := hown.lookup K.law ht hz (zd := .held z) (zp := []) rfl hkl
  obtain ⟨h1, h2⟩ := hD y kl hkl
  have e := kd_atKey h1 h2 hv'
  rw [hv] at e
  subst e
  refine wpList_plain hg fun K' hK' => ?_
  unfold Oper.wp
  simp [execOp, hop, hm, hx, hrun, Result.andThen]
  exact hK' _ _ hK

/-- 'm[x] = v'. -/
theorem wpList_put_km [DecidableEq α] (K : KeyKind P k enc ok) (hg : o.guard = none) (m x v : Operand) (t : TypeId) (hop : o.op = Op.mapUpdate t m x v) (e : TypeId) (ht : P.underlying t = some (.map k e)) (b n : Nat) (M : α → Option Value) (hm : a.eval m = .map (some b)) (hk : KM P k enc w b n M) (hn : n < maxLen)
    (y : α) (c : Value) (hx : a.eval x = enc y) (hv : a.eval v = c) (hy : ok y)
    (hK : ∀ w', KM P k enc w' b (n + 1) (updK M y c) → w.grownBy w' (some b) → w'.heap.size = w.heap.size → wpList P ops Q rest (a.put o.dst undef) w') : wpList P ops Q (o :: rest) a w := by
  obtain ⟨D, hown, hD⟩ := hk
  obtain ⟨kl, hkl⟩ := K.key y hy
  refine wpList_mapUpdate_in w hg m x v _ hop k e K.law ht hvR b n D hm hown hn (enc y) c kl hx hv hkl (.held c) [] rfl ?_
  intro w' h1 h2
  refine hK w' ⟨_, h1, fun y' kl' hk' => ?_⟩ h2.grown (by obtain ⟨es, cl, es', cl', _, rfl⟩ := h2; simp [ChangeMaps.setBlock])
  by_cases e : y' = y
  · subst e
    obtain rfl : kl' = kl := by rw [hkl] at hk'; exact (Option.some.inj hk').symm
    have hu : updK M y' c y' = some c := by simp [updK]
    rw [hu]
    refine ⟨Maps.has_put_same hown.isMap (K.law.key hkl) _, fun c' hc' z => ?_⟩
    cases hc'
    exact Maps.atKey_put_same hown.isMap (K.law.key hkl) _ z
  · have hne : kl' ≠ kl := fun e2 => e (K.inj _ _ (K.law.inj hk' (by rw [e2]; exact hkl)))
    have hu : updK M y c y' = M y' := by simp [updK, e]
    rw [hu, Maps.has_put_other hne]
    refine ⟨(hD y' kl' hk').1, fun c' hc' z => ?_⟩
    rw [Maps.atKey_put_other hne]
    exact (hD y' kl' hk').2 c' hc' z

/-- 'for x, v := range m' under way: those that are done have come. -/
def KR (P : Program) (k : TypeId) (enc : α → Value) (w : World) (b r n : Nat) (m : α → Option Value) (done : α → Prop) (cnt : Nat) : Prop :=
  ∃ (D : DataW Value) (left : Lit → Bool), w.ranges P k hvR b r n D left cnt ∧ KD P k enc D m ∧ ∀ x kl, keyOf P k (enc x) = some kl → (left kl = true ↔ (m x).isSome = true ∧ ¬ done x)
theorem KR.kept {w w' : World} {b r n cnt : Nat} {m : α → Option Value} {done : α → Prop} {row : Option Nat} (h : KR P k enc w b r n m done cnt) (hg : w.grownBy w' row) (hb : some b ≠ row) (hr : some r ≠ row) : KR P k enc w' b r n m done cnt := by
  obtain ⟨D, left, h1, h2, h3⟩ := h; exact ⟨D, left, h1.kept hg hb hr, h2, h3⟩
theorem KR.block {w w' : World} {b r n cnt : Nat} {m : α → Option Value} {done : α → Prop} (h : KR P k enc w b r n m done cnt) (hb : w'.heap[b]? = w.heap[b]?) (hr : w'.heap[r]? = w.heap[r]?) : KR P k enc w' b r n m done cnt := by
  obtain ⟨D, left, ⟨es, clock, since, seen, c0, x1, x2, x3, x4, x5, x6⟩, h2, h3⟩ := h
  exact ⟨D, left, ⟨es, clock, since, seen, c0, hb.trans x1, x2, x3, x4, hr.trans x5, x6⟩, h2, h3⟩
theorem KR.left {w : World} {b r n cnt : Nat} {m : α → Option Value} {done : α → Prop} (h : KR P k enc w b r n m done cnt) : w.rangeLeft b r = cnt := by
  obtain ⟨D, left, h1, _⟩ := h; exact h1.left_eq
theorem KR.owns {w : World} {b r n cnt : Nat} {m : α → Option Value} {done : α → Prop} (h : KR P k enc w b r n m done cnt) : KM P k enc w b n m := by
  obtain ⟨D, left, h1, h2, _⟩ := h; exact ⟨D, h1.owns, h2⟩
theorem KR.lt {w : World} {b r n cnt : Nat} {m : α → Option Value} {done : α → Prop} (h : KR P k enc w b r n m done cnt) : r < w.heap.size := by
  obtain ⟨D, left, h1, _⟩ := h; exact h1.lt
theorem KR.ne {w : World} {b r n cnt : Nat} {m : α → Option Value} {done : α → Prop} (h : KR P k enc w b r n m done cnt) : r ≠ b := by
  obtain ⟨D, left, h1, _⟩ := h; exact h1.ne

theorem wpList_range_km (K : KeyKind P k enc ok) (hg : o.guard = none) (m : Operand) (t : TypeId) (hop : o.op = Op.range t m) (e : TypeId) (ht : P.underlying t = some (.map k e)) (b n : Nat) (M : α → Option Value) (hm : a.eval m = .map (some b)) (hk : KM P k enc w b n M)
    (hK : ∀ w' cnt, KR P k enc w' b w.heap.size n M (fun _ => False) cnt → w.grownBy w' none → w'.heap.size = w.heap.size + 1 → wpList P ops Q rest (a.put o.dst (.pointer (some ⟨w.heap.size, 0, none⟩))) w') :
    wpList P ops Q (o :: rest) a w := by
  obtain ⟨D, hown, hD⟩ := hk
  refine wpList_range_own w hg m t hop k e K.law ht hvR b n D hm hown ?_
  intro w' h1 h2 h3
  exact hK w' _ ⟨D, _, h1, hD, fun x kl hkl => by rw [(hD x kl hkl).1]; simp⟩ h2 h3

theorem wpList_next_km (K : KeyKind P k enc ok) (hg : o.guard = none) (it : Operand) (hop : o.op = Op.next it false) (b r n : Nat) (M : α → Option Value) (done : α → Prop) (cnt : Nat) (hit : a.eval it = .pointer (some ⟨r, 0, none⟩)) (h : KR P k enc w b r n M done cnt)
    (hDone : (∀ x, ok x → (M x).isSome = true → done x) → wpList P ops Q rest (a.put o.dst (.tuple #[.bool false])) w)
    (hMore : ∀ (x : α) (v : Value) (w' : World) (cnt' : Nat), ok x → M x = some v → ¬ done x → KR P k enc w' b r n M (fun y => done y ∨ y = x) cnt' → cnt' < cnt → w.grownBy w' (some r) → w'.heap.size = w.heap.size →
      (Instr.entry (.pointer (some ⟨r, 0, none⟩))).run P w' = .ok (.tuple #[enc x, v]) w' → wpList P ops Q rest (a.put o.dst (.tuple #[.bool true, enc x, v])) w') :
    wpList P ops Q (o :: rest) a w := by
  obtain ⟨D, left, hr, hD, hl⟩ := h
  refine wpList_next_ranges w hg it hop k K.law hvR (α := {x : α // ok x}) (fun x => enc x.1) (fun v : Value => v) (fun key kl hkey => by obtain ⟨x, rfl, hx⟩ := K.inv key kl hkey; exact ⟨⟨x, hx⟩, rfl⟩) (fun v _ _ => ⟨v, rfl⟩) b r n D left cnt hit hr ?_ ?_
  · intro _ hf
    refine hDone fun x hx hs => ?_
    obtain ⟨kl, hkl⟩ := K.key x hx
    by_cases hd : done x
    · exact hd
    · have := (hl x kl hkl).2 ⟨hs, hd⟩
      rw [hf kl] at this; cases this
  · intro x v kl y w' cnt' hkl hlk hv hat hrg hlt hgr hsz hen
    obtain ⟨hs, hnd⟩ := (hl x.1 kl hkl).1 hlk
    obtain ⟨v', hv'⟩ := Option.isSome_iff_exists.1 hs
    have e : v = v' := by
      have h2 := (hD x.1 kl hkl).2 v' hv' (.held v)
      rw [hat (.held v)] at h2
      unfold hvR at hv
      simp only [Option.some.injEq] at hv
      rw [← hv] at h2
      simpa using h2
    subst e
    refine hMore x.1 v w' cnt' x.2 hv' hnd ⟨D, _, hrg, hD, fun z kl' hkl' => ?_⟩ hlt hgr hsz hen
    by_cases e : z = x.1
    · subst e
      obtain rfl : kl' = kl := by rw [hkl] at hkl'; exact (Option.some.inj hkl').symm
      rw [WideAt.sameKey_self (K.law.key hkl)]
      simp
    · have hne : kl' ≠ kl := fun e2 => e (K.inj _ _ (K.law.inj hkl' (by rw [e2]; exact hkl)))
      rw [Maps.sameKey_ne hne]
      simp only [Bool.not_false, Bool.and_true]
      rw [hl z kl' hkl']
      simp [e]
end

/-! ### strings as keys -/
theorem kStr : KeyKind Tryz.prog 9 Value.string (fun s : ByteArray => s.size ≤ maxLen) where
  law := string_keyed Tryz.underlying9
  key x hx := ⟨_, WideMaps.keyOf_string_mk Tryz.underlying9 hx⟩
  inv v kl h := by
    cases v <;> simp [keyOf, Tryz.underlying9, mapKey] at h
    exact ⟨_, rfl, h.1⟩
  inj x y h := by simpa using h
end Go.Proofs.YtpfekkhnjaopdaaGreat
