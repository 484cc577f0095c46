/- spec.l3Rising, spec.GoodEntry. -/
import Derived.Test.YthmjefmljcdpcaaQGoA
namespace Go.Proofs.Ythmjefmljcdpcaa
open Go.RowKit

set_option maxHeartbeats 1000000 in
theorem l3Rising_any (a : Option Addr) (len cap : Nat) (l : List ByteArray) (w : World) (hl : len ≤ maxLen) (hs : SlS w a len l) (hv : ∀ q ∈ l, ByteArray.size q ≤ maxLen) :
    Calls Try.prog 49 #[.slice a len cap] w fun e w' => RetB e (RisN l l.length) ∧ Below w.heap.size w w' := by
  unfold maxLen at hl
  have HS := hide hs
  have HV := hide hv
  clear hs hv
  go_enter Try.func49, Try.ntmps49
  go_wp2
  go_loopw [3] (fun i w' => ∃ k : Nat, 1 ≤ k ∧ (k ≤ len ∨ k = 1) ∧ i = .int .i64 k ∧ Hid (Below w.heap.size w w') ∧ Hid (RisN l k)) (fun i _ => len - (intOf i).toNat)
  case atStart => exact ⟨1, Nat.le_refl _, .inr rfl, rfl, hide (Below.refl _ _), hide (fun i _ h h' => absurd h (by omega))⟩
  case round =>
    obtain ⟨k, hk1, hk, rfl, hb, hris⟩ := hrel
    by_cases hlt : k < len
    · obtain ⟨j, rfl⟩ : ∃ j, k = j + 1 := ⟨k - 1, by omega⟩
      have hk' : j + 1 < l.length := by rw [← (unhide HS).1]; exact hlt
      obtain ⟨b, off, rfl, hrow⟩ := ((unhide HS).keep (unhide hb)).at hlt
      have pk := hrow.c (j + 1) hk'
      have pj := hrow.c j (by omega)
      have zk := hrow.z
      have hz := unhide HV _ (List.getElem_mem (show j < l.length by omega))
      have qc := hide (fun w => cmpText_any (l[j]'(by omega)) (l[j + 1]'hk') w hz)
      have stepR := hide (fun g : cmpT (l[j]'(by omega)).data.toList (l[j + 1]'hk').data.toList < 0 => (unhide hris).step hk' (fun _ => g))
      have noR := hide (fun (g : ¬ cmpT (l[j]'(by omega)).data.toList (l[j + 1]'hk').data.toList < 0) (h : RisN l l.length) => g (h (j + 1) hk' (by omega) hk'))
      clear hrow hz
      generalize l[j + 1] = P at *
      generalize l[j] = Q at *
      have ne : Nonempty (Kept wr) := ⟨⟨wr, Below.refl _ _⟩⟩
      have x0 := kept_cell zk pk
      have t0 := kept_cell zk pj
      have ej : IntKind.i64.wrap ((j : Int) + 1 - 1) = (j : Int) := by rw [IntKind.wrap_i64]; omega
      have i0 : (0 : Int) ≤ (j : Int) := by omega
      have i1 : (j : Int) < (len : Int) := by omega
      have i2 : (j : Int) + 1 < (len : Int) := by omega
      clear pk pj
      by_cases hc : cmpT Q.data.toList P.data.toList < 0
      · have dc : decide (0 ≤ cmpT Q.data.toList P.data.toList) = false := by simp; omega
        replace stepR := hide (unhide stepR hc)
        clear hc
        go_wp2_with fail
        refine wp_region_kept (by kernel_rfl) (by kernel_rfl) ?_
        repeat (first
          | go_big_quiet_step ((go_at_call 47; exact kept_call (unhide qc _)))
          | quiet_step ((go_at_call 47; exact kept_call (unhide qc _))))
        refine wpQuiet_nil ?_
        rintro _ ⟨q, rfl⟩
        go_wp2_with fail
        exact ⟨⟨j + 1 + 1, by omega, by omega, by go_num, hide (bTr (unhide hb) q.h), stepR⟩, by simp [intOf]; omega⟩
      · have dc : decide (0 ≤ cmpT Q.data.toList P.data.toList) = true := by simp; omega
        replace noR := hide (unhide noR hc)
        clear hc
        go_wp2_with fail
        refine wp_region_kept (by kernel_rfl) (by kernel_rfl) ?_
        repeat (first
          | go_big_quiet_step ((go_at_call 47; exact kept_call (unhide qc _)))
          | quiet_step ((go_at_call 47; exact kept_call (unhide qc _))))
        refine wpQuiet_nil ?_
        rintro _ ⟨q, rfl⟩
        go_wp2_with fail
        go_ret
        exact ⟨retB (b := false) ⟨fun h => (by cases h), fun h => absurd h (unhide noR)⟩, bTr (unhide hb) q.h⟩
    · have hR : Hid (RisN l l.length) := hide (fun i h h0 h1 => by
        have hl' := (unhide HS).1
        exact unhide hris i h h0 (by omega))
      go_wp2_with fail
      go_ret
      exact ⟨retB (b := true) ⟨fun _ => unhide hR, fun _ => rfl⟩, unhide hb⟩

/-- Whether texts rise, as a bool. -/
noncomputable def risB (l : List ByteArray) : Bool := @decide (RisN l l.length) (Classical.propDecidable _)
theorem risB_iff (l : List ByteArray) : risB l = true ↔ RisN l l.length := by unfold risB; simp
theorem l3Rising_b (a : Option Addr) (len cap : Nat) (l : List ByteArray) (w : World) (hl : len ≤ maxLen) (hs : SlS w a len l) (hv : ∀ q ∈ l, ByteArray.size q ≤ maxLen) :
    Calls Try.prog 49 #[.slice a len cap] w fun e w' => e = .returned (.bool (risB l)) ∧ Below w.heap.size w w' :=
  (l3Rising_any a len cap l w hl hs hv).mono fun e w' ⟨⟨b, h1, h2⟩, h3⟩ => ⟨by rw [h1]; exact ret_bool (by rw [Bool.eq_iff_iff, risB_iff]; exact h2), h3⟩

set_option maxRecDepth 20000 in
set_option maxHeartbeats 8000000 in
theorem sGoodEntry_any (l : List PartT) (m : List AttrT) (b1 b2 l1 l2 : Nat) (w : World) (e1 : l1 = l.length) (e2 : l2 = m.length) (h1 : PartRow w b1 0 l) (h2 : AttrRow w b2 0 m) (m1 : l1 ≤ maxLen) (m2 : l2 ≤ maxLen) (o1 : ∀ q ∈ l, PartT.Ok q) (o2 : ∀ q ∈ m, AttrT.Ok q) :
    Calls Try.prog 28 #[.agg #[.slice (some ⟨b1, 0, none⟩) l1 l1, .slice (some ⟨b2, 0, none⟩) l2 l2]] w fun e w' => RetB e (EntG l m) ∧ Below w.heap.size w w' := by
  have hG : Hid (EntG l m ↔ ((1 ≤ l1 ∧ dirB l = true) ∧ (1 ≤ l2 ∧ l2 ≤ 30) ∧ (∀ i (h : i < m.length), AttrG m[i]) ∧ RisM m m.length)) := hide (by unfold EntG; rw [e1, e2])
  generalize EntG l m = G at hG
  have q1 := hide (fun w (h : PartRow w b1 0 l) => sGoodDirName_any (some ⟨b1, 0, none⟩) l1 l1 l w m1 ⟨e1, .inr ⟨b1, 0, rfl, h⟩⟩ o1)
  have B := hide (bAl (Below.refl w.heap.size w) (.cells #[.slice (some ⟨b1, 0, none⟩) l1 l1, .slice (some ⟨b2, 0, none⟩) l2 l2] 55))
  have R := hide (RowIs.new w #[.slice (some ⟨b1, 0, none⟩) l1 l1, .slice (some ⟨b2, 0, none⟩) l2 l2] 55)
  have H1 := hide (h1.keep (unhide B))
  have H2 := hide (h2.keep (unhide B))
  have HO := hide o2
  have E2 := hide e2
  unfold maxLen at m1 m2
  clear h1 h2 o1 o2 e1 e2
  generalize dirB l = T1 at q1 hG
  cases T1
  · have no : Hid (¬ G) := hide (fun h => by have := ((unhide hG).1 h).1.2; cases this)
    go_enter Try.func28, Try.ntmps28
    go_wp2_with fail
    refine (unhide q1 _ (unhide H1)).mono ?_
    rintro e w1 ⟨rfl, hb⟩
    go_wp2_with fail
    go_ret
    exact ⟨retB ⟨fun h => (by cases h), fun h => absurd h (unhide no)⟩, bTr (unhide B) hb⟩
  by_cases g1 : l1 < 1
  · have no : Hid (¬ G) := hide (fun h => by have := ((unhide hG).1 h).1.1; omega)
    obtain rfl : l1 = 0 := by omega
    go_enter Try.func28, Try.ntmps28
    go_wp2_with fail
    refine (unhide q1 _ (unhide H1)).mono ?_
    rintro e w1 ⟨rfl, hb⟩
    have c0 := ((unhide R).keep hb).at (o := 0) (v := .slice (some ⟨b1, 0, none⟩) 0 0) rfl
    go_wp2_with fail
    go_ret
    exact ⟨retB ⟨fun h => (by cases h), fun h => absurd h (unhide no)⟩, bTr (unhide B) hb⟩
  have d0 : ((l1 : Int) == 0) = false := by simp; omega
  by_cases g2 : l2 < 1
  · have no : Hid (¬ G) := hide (fun h => by have := ((unhide hG).1 h).2.1; omega)
    obtain rfl : l2 = 0 := by omega
    go_enter Try.func28, Try.ntmps28
    go_wp2_with fail
    refine (unhide q1 _ (unhide H1)).mono ?_
    rintro e w1 ⟨rfl, hb⟩
    have c0 := ((unhide R).keep hb).at (o := 0) (v := .slice (some ⟨b1, 0, none⟩) l1 l1) rfl
    have c1 := ((unhide R).keep hb).at (o := 1) (v := .slice (some ⟨b2, 0, none⟩) 0 0) rfl
    go_wp2_with fail
    go_ret
    exact ⟨retB ⟨fun h => (by cases h), fun h => absurd h (unhide no)⟩, bTr (unhide B) hb⟩
  have d1 : decide ((l2 : Int) < 1) = false := by simp; omega
  by_cases g3 : 30 < l2
  · have no : Hid (¬ G) := hide (fun h => by have := ((unhide hG).1 h).2.1; omega)
    have d2 : decide (30 < (l2 : Int)) = true := by simp; omega
    go_enter Try.func28, Try.ntmps28
    go_wp2_with fail
    refine (unhide q1 _ (unhide H1)).mono ?_
    rintro e w1 ⟨rfl, hb⟩
    have c0 := ((unhide R).keep hb).at (o := 0) (v := .slice (some ⟨b1, 0, none⟩) l1 l1) rfl
    have c1 := ((unhide R).keep hb).at (o := 1) (v := .slice (some ⟨b2, 0, none⟩) l2 l2) rfl
    go_wp2_with fail
    go_ret
    exact ⟨retB ⟨fun h => (by cases h), fun h => absurd h (unhide no)⟩, bTr (unhide B) hb⟩
  have d2 : decide (30 < (l2 : Int)) = false := by simp; omega
  replace hG : Hid (G ↔ ((∀ i (h : i < m.length), AttrG m[i]) ∧ RisM m m.length)) := hide ⟨fun h => ((unhide hG).1 h).2.2, fun h => (unhide hG).2 ⟨⟨by omega, rfl⟩, by omega, h⟩⟩
  go_enter Try.func28, Try.ntmps28
  go_wp2_with fail
  refine (unhide q1 _ (unhide H1)).mono ?_
  rintro e w1 ⟨rfl, hb⟩
  replace R := hide ((unhide R).keep hb)
  replace H2 := hide ((unhide H2).keep hb)
  replace B := hide (bTr (unhide B) hb)
  clear hb q1 H1
  have c0 := (unhide R).at (o := 0) (v := .slice (some ⟨b1, 0, none⟩) l1 l1) rfl
  have c1 := (unhide R).at (o := 1) (v := .slice (some ⟨b2, 0, none⟩) l2 l2) rfl
  go_wp2_with fail
  clear c0 c1
  go_loopw [32] (fun i w' => ∃ (k : Nat), k ≤ l2 ∧ i = .int .i64 k ∧ Hid (∀ i (h : i < m.length), i < k → AttrG m[i]) ∧ Hid (RisM m k) ∧ Hid (Below w1.heap.size w1 w')) (fun i _ => l2 - (intOf i).toNat)
  case atStart => exact ⟨0, Nat.zero_le _, rfl, hide (fun i _ h => absurd h (Nat.not_lt_zero _)), hide (fun i _ _ h => absurd h (Nat.not_lt_zero _)), hide (Below.refl _ _)⟩
  case round =>
    obtain ⟨k, hk, rfl, ha, hris, hb⟩ := hrel
    by_cases hlt : k < l2
    · have hk' : k < m.length := by rw [← unhide E2]; exact hlt
      have hrow := (unhide H2).keep (unhide hb)
      obtain ⟨p0, xa, xl, xc, p1, hsl⟩ := hrow.c k hk'
      rw [Nat.zero_add] at p0 p1
      have ho := unhide HO _ (List.getElem_mem hk')
      have hxl : xl = (m[k]'hk').vs.length := hsl.1
      have HXL := hide hxl
      have hxm : xl ≤ 9223372036854775807 := by have := ho.l9; rw [← hxl] at this; unfold maxLen at this; omega
      have hxm2 : xl ≤ maxLen := by rw [hxl]; exact ho.l9
      have stG := hide (show AttrG (m[k]'hk') → ∀ i (h : i < m.length), i < k + 1 → AttrG m[i] from fun hg i hi hik => by
        rcases Nat.lt_or_ge i k with h | h
        · exact unhide ha i hi h
        · obtain rfl : i = k := by omega
          exact hg)
      have stR := hide (show (0 < k → cmpT (m[k - 1]'(by omega)).n.data.toList (m[k]'hk').n.data.toList < 0) → RisM m (k + 1) from fun h => (unhide hris).step hk' h)
      have noG := hide (show G → AttrG (m[k]'hk') from fun h => ((unhide hG).1 h).1 k hk')
      have noR := hide (show G → 0 < k → cmpT (m[k - 1]'(by omega)).n.data.toList (m[k]'hk').n.data.toList < 0 from fun h h0 => ((unhide hG).1 h).2 k hk' h0 hk')
      have pj := (hrow.c (k - 1) (by omega)).c0
      rw [Nat.zero_add] at pj
      have zj := hrow.z
      have hpn := (unhide HO _ (List.getElem_mem (show k - 1 < m.length by omega))).n9
      have qn := hide (fun w => sGoodName_any (m[k]'hk').n ho.n9 w)
      have qt := hide (fun w => cmpText_any (m[k - 1]'(by omega)).n (m[k]'hk').n w hpn)
      have qr := hide (fun w (hs : SlS w xa xl (m[k]'hk').vs) => l3Rising_b xa xl xc (m[k]'hk').vs w hxm2 hs ho.v9)
      have hv9 := hide ho.v9
      obtain ⟨W0, hW0⟩ : ∃ W, W = wr.alloc (.cells #[.string (m[k]'hk').n, .slice xa xl xc] 98) := ⟨_, rfl⟩
      have HW0 := hide hW0
      obtain ⟨BX, hB⟩ : ∃ B, B = wr.heap.size := ⟨_, rfl⟩
      have HB := hide hB
      have RA : RowIs W0 BX #[.string (m[k]'hk').n, .slice xa xl xc] 98 := by rw [hW0, hB]; exact RowIs.new _ _ _
      have BW : Below wr.heap.size wr W0 := by rw [hW0]; exact bAl (Below.refl _ _) _
      have HBW := hide (bTr (unhide hb) BW)
      have S0 := hide (hsl.keep BW)
      have R0 := ((unhide R).keep (unhide hb)).keep BW
      have hrow0 := hrow.keep BW
      have eG := hide (show AttrG (m[k]'hk') ↔ (goodName (m[k]'hk').n = true ∧ (1 ≤ xl ∧ xl ≤ 30) ∧ (m[k]'hk').vs.all txtB = true ∧ risB (m[k]'hk').vs = true) by unfold AttrG; rw [risB_iff, hxl])
      clear hrow hsl ho hxl hxm2 hW0 hB hpn
      generalize hAe : m[k] = A at p0 qn qt qr hv9 S0 HXL HW0 RA stG stR noG noR eG
      generalize m[k - 1] = P at pj qt stR noR
      clear hAe
      have zB := RA.lt
      have cA := RA.at (o := 0) (v := .string A.n) rfl
      have cT := RA.at (o := 1) (v := .slice xa xl xc) rfl
      have cE := R0.at (o := 1) (v := .slice (some ⟨b2, 0, none⟩) l2 l2) rfl
      have pj0 := cellB BW zj pj
      have zj0 := hrow0.z
      have ne : Nonempty (Kept W0) := ⟨⟨W0, Below.refl _ _⟩⟩
      have f0 := kept_cell zB cA
      have f1 := kept_cell zB cT
      have f2 := kept_cell R0.lt cE
      have f3 := kept_cell zj0 pj0
      have RA' := hide RA
      have qk := hide (fun q : Kept W0 => unhide qr q.w ((unhide S0).keep q.h))
      clear RA R0 hrow0 zj zj0 pj pj0 cA cT cE zB BW qr
      generalize goodName A.n = T1 at qn eG
      generalize cmpT P.n.data.toList A.n.data.toList = c at qt stR noR
      generalize hrb : risB A.vs = T4 at qk eG
      clear hrb
      by_cases hT1 : T1 = false
      · subst hT1
        have no : Hid (¬ G) := hide (fun h => by have := ((unhide eG).1 (unhide noG h)).1; cases this)
        clear stG stR noG noR eG
        go_wp2_with fail
        rw [← unhide HW0, ← unhide HB]
        refine wp_region_kept (by kernel_rfl) (by kernel_rfl) ?_
        repeat (first
          | go_big_quiet_step ((go_at_call 33; exact kept_same (unhide qn _)))
          | quiet_step ((go_at_call 33; exact kept_same (unhide qn _))))
        refine wpQuiet_nil ?_
        rintro _ ⟨q, rfl⟩
        go_wp2_with fail
        go_ret
        exact ⟨retB ⟨fun h => (by cases h), fun h => absurd h (unhide no)⟩, bTr (bTr (unhide B) (unhide HBW)) q.h⟩
      obtain rfl : T1 = true := by simpa using hT1
      clear hT1
      by_cases hcase : 0 < k ∧ 0 ≤ c
      · have no : Hid (¬ G) := hide (fun h => by have := unhide noR h hcase.1; omega)
        obtain ⟨hk0, hc⟩ := hcase
        have dc : decide (0 ≤ c) = true := by simpa using hc
        have hk1 : (0 : Int) < (k : Int) := by omega
        obtain ⟨J, hJ⟩ : ∃ J, k = J + 1 := ⟨k - 1, by omega⟩
        have eJ : k - 1 = J := by omega
        rw [eJ] at f3
        have ej : IntKind.i64.wrap ((k : Int) - 1) = (J : Int) := by rw [IntKind.wrap_i64]; omega
        have i0 : (0 : Int) ≤ (J : Int) := by omega
        have i1 : (J : Int) < (l2 : Int) := by omega
        clear eJ hJ stG stR noG noR eG hc
        focus
          go_wp2_with fail
          rw [← unhide HW0, ← unhide HB]
          refine wp_region_kept (by kernel_rfl) (by kernel_rfl) ?_
          repeat (first
            | go_big_quiet_step (first | (go_at_call 33; exact kept_same (unhide qn _)) | (go_at_call 47; exact kept_call (unhide qt _)) | (go_at_call 49; exact kept_call (unhide qk _)))
            | quiet_step (first | (go_at_call 33; exact kept_same (unhide qn _)) | (go_at_call 47; exact kept_call (unhide qt _)) | (go_at_call 49; exact kept_call (unhide qk _))))
          refine wpQuiet_nil ?_
          rintro _ ⟨q, rfl⟩
          go_wp2_with fail
          go_ret
          exact ⟨retB ⟨fun h => (by cases h), fun h => absurd h (unhide no)⟩, bTr (bTr (unhide B) (unhide HBW)) q.h⟩
      have sR : Hid (RisM m (k + 1)) := hide (unhide stR (fun h => by omega))
      have hcc : 0 < k → c < 0 := fun h => by omega
      clear stR noR hcase
      by_cases hk0 : 0 < k
      all_goals (first
        | (have hk1 : (0 : Int) < (k : Int) := by omega
           obtain ⟨J, hJ⟩ : ∃ J, k = J + 1 := ⟨k - 1, by omega⟩
           have eJ : k - 1 = J := by omega
           rw [eJ] at f3
           have ej : IntKind.i64.wrap ((k : Int) - 1) = (J : Int) := by rw [IntKind.wrap_i64]; omega
           have i0 : (0 : Int) ≤ (J : Int) := by omega
           have i1 : (J : Int) < (l2 : Int) := by omega
           clear eJ hJ)
        | (have hk1 : ¬ (0 : Int) < (k : Int) := by omega
           clear f3))
      all_goals (try (have dc : decide (0 ≤ c) = false := by (have := hcc hk0; simp; omega)))
      all_goals clear hcc
      all_goals
        by_cases h3 : xl < 1
        · have no : Hid (¬ G) := hide (fun h => by have := ((unhide eG).1 (unhide noG h)).2.1; omega)
          have d3 : decide ((xl : Int) < 1) = true := by simp; omega
          clear stG noG eG
          go_wp2_with fail
          rw [← unhide HW0, ← unhide HB]
          refine wp_region_kept (by kernel_rfl) (by kernel_rfl) ?_
          repeat (first
            | go_big_quiet_step (first | (go_at_call 33; exact kept_same (unhide qn _)) | (go_at_call 47; exact kept_call (unhide qt _)) | (go_at_call 49; exact kept_call (unhide qk _)))
            | quiet_step (first | (go_at_call 33; exact kept_same (unhide qn _)) | (go_at_call 47; exact kept_call (unhide qt _)) | (go_at_call 49; exact kept_call (unhide qk _))))
          refine wpQuiet_nil ?_
          rintro _ ⟨q, rfl⟩
          go_wp2_with fail
          go_ret
          exact ⟨retB ⟨fun h => (by cases h), fun h => absurd h (unhide no)⟩, bTr (bTr (unhide B) (unhide HBW)) q.h⟩
        have d3 : decide ((xl : Int) < 1) = false := by simp; omega
        by_cases h4 : 30 < xl
        · have no : Hid (¬ G) := hide (fun h => by have := ((unhide eG).1 (unhide noG h)).2.1; omega)
          have d4 : decide (30 < (xl : Int)) = true := by simp; omega
          clear stG noG eG
          go_wp2_with fail
          rw [← unhide HW0, ← unhide HB]
          refine wp_region_kept (by kernel_rfl) (by kernel_rfl) ?_
          repeat (first
            | go_big_quiet_step (first | (go_at_call 33; exact kept_same (unhide qn _)) | (go_at_call 47; exact kept_call (unhide qt _)) | (go_at_call 49; exact kept_call (unhide qk _)))
            | quiet_step (first | (go_at_call 33; exact kept_same (unhide qn _)) | (go_at_call 47; exact kept_call (unhide qt _)) | (go_at_call 49; exact kept_call (unhide qk _))))
          refine wpQuiet_nil ?_
          rintro _ ⟨q, rfl⟩
          go_wp2_with fail
          go_ret
          exact ⟨retB ⟨fun h => (by cases h), fun h => absurd h (unhide no)⟩, bTr (bTr (unhide B) (unhide HBW)) q.h⟩
        have d4 : decide (30 < (xl : Int)) = false := by simp; omega
        by_cases h5 : T4 = false
        · subst h5
          have no : Hid (¬ G) := hide (fun h => by have := ((unhide eG).1 (unhide noG h)).2.2.2; cases this)
          clear stG noG eG
          go_wp2_with fail
          rw [← unhide HW0, ← unhide HB]
          refine wp_region_kept (by kernel_rfl) (by kernel_rfl) ?_
          repeat (first
            | go_big_quiet_step (first | (go_at_call 33; exact kept_same (unhide qn _)) | (go_at_call 47; exact kept_call (unhide qt _)) | (go_at_call 49; exact kept_call (unhide qk _)))
            | quiet_step (first | (go_at_call 33; exact kept_same (unhide qn _)) | (go_at_call 47; exact kept_call (unhide qt _)) | (go_at_call 49; exact kept_call (unhide qk _))))
          refine wpQuiet_nil ?_
          rintro _ ⟨q, rfl⟩
          go_wp2_with fail
          go_ret
          exact ⟨retB ⟨fun h => (by cases h), fun h => absurd h (unhide no)⟩, bTr (bTr (unhide B) (unhide HBW)) q.h⟩
        obtain rfl : T4 = true := by simpa using h5
        clear h5
        focus
          go_wp2_with fail
          rw [← unhide HW0, ← unhide HB]
          refine wp_region_kept (by kernel_rfl) (by kernel_rfl) ?_
          repeat (first
            | go_big_quiet_step (first | (go_at_call 33; exact kept_same (unhide qn _)) | (go_at_call 47; exact kept_call (unhide qt _)) | (go_at_call 49; exact kept_call (unhide qk _)))
            | quiet_step (first | (go_at_call 33; exact kept_same (unhide qn _)) | (go_at_call 47; exact kept_call (unhide qt _)) | (go_at_call 49; exact kept_call (unhide qk _))))
          refine wpQuiet_nil ?_
          rintro _ ⟨q, rfl⟩
          obtain ⟨w3, hb3⟩ := q
          clear ne f0 f1 f2 qn qt qk
          have cT := ((unhide RA').keep hb3).at (o := 1) (v := .slice xa xl xc) rfl
          have S3 := hide ((unhide S0).keep hb3)
          have B3 := hide (bTr (unhide HBW) hb3)
          go_wp2_with fail
          clear cT
          go_loopw [79] (fun i w' => ∃ (j : Nat), j ≤ xl ∧ i = .int .i64 j ∧ Hid ((A.vs.take j).all txtB = true) ∧ Hid (Below w3.heap.size w3 w')) (fun i _ => xl - (intOf i).toNat)
          case atStart => exact ⟨0, Nat.zero_le _, rfl, hide rfl, hide (Below.refl _ _)⟩
          case round =>
            obtain ⟨j, hj, rfl, hal, hb4⟩ := hrel
            by_cases hjt : j < xl
            · obtain ⟨b, off, rfl, hrow⟩ := ((unhide S3).keep (unhide hb4)).at hjt
              have hj' : j < A.vs.length := by rw [← unhide HXL]; exact hjt
              have c0 := hrow.c j hj'
              have hz := unhide hv9 _ (List.getElem_mem hj')
              have qp := hide (fun w => l1Printed_any (A.vs[j]'hj') hz w)
              have eT := hide (strs_snoc hj' txtB)
              have eN := hide (fun h => strs_no (f := txtB) hj' h)
              have eP := hide (show txtB (A.vs[j]'hj') = (decide (1 ≤ (A.vs[j]'hj').size) && (decide ((A.vs[j]'hj').size ≤ 200) && textL (A.vs[j]'hj'))) from rfl)
              unfold maxLen at hz
              clear hrow
              generalize A.vs[j] = V at c0 qp eT eN eP hz
              generalize txtB V = T at eT eN eP
              generalize textL V = T2 at qp eP
              have B5 := hide (bTr (unhide B3) (unhide hb4))
              by_cases v1 : V.size < 1
              · have x1 : decide ((V.size : Int) < 1) = true := by simp; omega
                have eF : T = false := by rw [unhide eP, decide_eq_false (show ¬ 1 ≤ V.size by omega)]; simp
                have no : Hid (¬ G) := hide (fun h => by have h1 := ((unhide eG).1 (unhide noG h)).2.2.1; rw [unhide eN eF] at h1; cases h1)
                clear eF
                go_wp2_with fail
                go_ret
                exact ⟨retB ⟨fun h => (by cases h), fun h => absurd h (unhide no)⟩, bTr (unhide B) (unhide B5)⟩
              have x1 : decide ((V.size : Int) < 1) = false := by simp; omega
              by_cases v2 : 200 < V.size
              · have x2 : decide (200 < (V.size : Int)) = true := by simp; omega
                have eF : T = false := by rw [unhide eP, decide_eq_false (show ¬ V.size ≤ 200 by omega)]; simp
                have no : Hid (¬ G) := hide (fun h => by have h1 := ((unhide eG).1 (unhide noG h)).2.2.1; rw [unhide eN eF] at h1; cases h1)
                clear eF
                go_wp2_with fail
                go_ret
                exact ⟨retB ⟨fun h => (by cases h), fun h => absurd h (unhide no)⟩, bTr (unhide B) (unhide B5)⟩
              have x2 : decide (200 < (V.size : Int)) = false := by simp; omega
              have eF : Hid (T = T2) := hide (by rw [unhide eP, decide_eq_true (show 1 ≤ V.size by omega), decide_eq_true (show V.size ≤ 200 by omega)]; simp)
              cases T2
              · have no : Hid (¬ G) := hide (fun h => by have h1 := ((unhide eG).1 (unhide noG h)).2.2.1; rw [unhide eN (unhide eF)] at h1; cases h1)
                go_wp2_with (go_at_call 34; refine (unhide qp _).mono ?_; rintro e w' ⟨rfl, rfl⟩)
                go_ret
                exact ⟨retB ⟨fun h => (by cases h), fun h => absurd h (unhide no)⟩, bTr (unhide B) (unhide B5)⟩
              · go_wp2_with (go_at_call 34; refine (unhide qp _).mono ?_; rintro e w' ⟨rfl, rfl⟩)
                exact ⟨⟨j + 1, by omega, by go_num, hide (by rw [unhide eT, unhide hal, unhide eF]; rfl), hb4⟩, by simp [intOf]; omega⟩
            · obtain rfl : j = xl := by omega
              have hall : Hid (A.vs.all txtB = true) := hide (by have := unhide hal; rwa [unhide HXL, List.take_length] at this)
              have hg := hide (unhide stG ((unhide eG).2 ⟨by first | rfl | trivial, by omega, unhide hall, by first | rfl | trivial⟩))
              go_wp2_with fail
              exact ⟨⟨k + 1, by omega, by go_num, hg, sR, hide (bTr (unhide B3) (unhide hb4))⟩, by simp [intOf]; omega⟩
    · obtain rfl : k = l2 := by omega
      have hyes : Hid G := hide ((unhide hG).2 ⟨fun i hi => unhide ha i hi (by rw [unhide E2]; exact hi), by have := unhide hris; rwa [unhide E2] at this⟩)
      go_wp2_with fail
      go_ret
      exact ⟨retB ⟨fun _ => unhide hyes, fun _ => rfl⟩, bTr (unhide B) (unhide hb)⟩
end Go.Proofs.Ythmjefmljcdpcaa
