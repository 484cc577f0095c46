/- impl.risingByName at the three kinds; isThingName. -/
import Derived.Test.YtkfbecelfkbkkaaZSb
import Derived.Test.YtkfbecelfkbkkaaWValJ
import Derived.BigQuiet
namespace Go.Proofs.Ytkfbecelfkbkkaa.V
set_option linter.unusedSimpArgs false
set_option linter.unusedVariables false
open Go.RowKit

set_option maxHeartbeats 400000 in
theorem ttName_any (x : ThingTypeE) (w : World) : Calls Try.prog 120 #[.agg #[.string x.t.f0, .slice x.h1.a x.h1.len x.h1.cap, .slice x.h2.a x.h2.len x.h2.cap]] w fun r w' => r = .returned (.string x.t.f0) ∧ Below w.heap.size w w' := by
  go_enter Try.func120, Try.ntmps120
  go_wp2_with fail
  go_ret
  exact ⟨rfl, bAl (Below.refl _ _) _⟩
set_option maxRecDepth 20000 in
set_option maxHeartbeats 2000000 in
theorem ttBy_any (bc : Nat) (P Q : ThingTypeE) (w : World) (hc : w.cell? ⟨bc, 0, none⟩ = some (.func (.func 120) #[] #[])) :
    Calls Try.prog 144 #[.agg #[.string P.t.f0, .slice P.h1.a P.h1.len P.h1.cap, .slice P.h2.a P.h2.len P.h2.cap], .agg #[.string Q.t.f0, .slice Q.h1.a Q.h1.len Q.h1.cap, .slice Q.h2.a Q.h2.len Q.h2.cap], .pointer (some ⟨bc, 0, none⟩)] w fun r w' => r = .returned (.int .i64 (cmpT P.t.f0.data.toList Q.t.f0.data.toList)) ∧ Below w.heap.size w w' := by
  have zb : bc < w.heap.size := World.block_lt_of_cell? w ⟨bc, 0, none⟩ hc
  obtain ⟨W, hW⟩ : ∃ W, W = (w.alloc (.cells #[.string P.t.f0, .slice P.h1.a P.h1.len P.h1.cap, .slice P.h2.a P.h2.len P.h2.cap] 90)).alloc (.cells #[.string Q.t.f0, .slice Q.h1.a Q.h1.len Q.h1.cap, .slice Q.h2.a Q.h2.len Q.h2.cap] 90) := ⟨_, rfl⟩
  have bW : Below w.heap.size w W := by rw [hW]; exact bAl (bAl (Below.refl _ _) _) _
  have rP : RowIs W w.heap.size #[.string P.t.f0, .slice P.h1.a P.h1.len P.h1.cap, .slice P.h2.a P.h2.len P.h2.cap] 90 := by rw [hW]; exact (RowIs.new w _ _).keep (bAl (Below.refl _ _) _)
  have rQ : RowIs W (w.heap.size + 1) #[.string Q.t.f0, .slice Q.h1.a Q.h1.len Q.h1.cap, .slice Q.h2.a Q.h2.len Q.h2.cap] 90 := by rw [hW]; have := RowIs.new (w.alloc (.cells #[.string P.t.f0, .slice P.h1.a P.h1.len P.h1.cap, .slice P.h2.a P.h2.len P.h2.cap] 90)) #[.string Q.t.f0, .slice Q.h1.a Q.h1.len Q.h1.cap, .slice Q.h2.a Q.h2.len Q.h2.cap] 90; simpa using this
  have HW := hide hW
  have x0 := kept_cell (W := W) (p := ⟨w.heap.size, 0, none⟩) rP.lt (rP.at (o := 0) (v := .string P.t.f0) rfl)
  have y0 := kept_cell (W := W) (p := ⟨w.heap.size + 1, 0, none⟩) rQ.lt (rQ.at (o := 0) (v := .string Q.t.f0) rfl)
  have x1 := kept_cell (W := W) (p := ⟨w.heap.size, 1, none⟩) rP.lt (rP.at (o := 1) (v := .slice P.h1.a P.h1.len P.h1.cap) rfl)
  have y1 := kept_cell (W := W) (p := ⟨w.heap.size + 1, 1, none⟩) rQ.lt (rQ.at (o := 1) (v := .slice Q.h1.a Q.h1.len Q.h1.cap) rfl)
  have x2 := kept_cell (W := W) (p := ⟨w.heap.size, 2, none⟩) rP.lt (rP.at (o := 2) (v := .slice P.h2.a P.h2.len P.h2.cap) rfl)
  have y2 := kept_cell (W := W) (p := ⟨w.heap.size + 1, 2, none⟩) rQ.lt (rQ.at (o := 2) (v := .slice Q.h2.a Q.h2.len Q.h2.cap) rfl)
  have z0 := kept_cell (W := W) (p := ⟨bc, 0, none⟩) (Nat.lt_of_lt_of_le zb bW.size) (cellB bW zb hc)
  have ne : Nonempty (Kept W) := ⟨⟨W, Below.refl _ _⟩⟩
  have qP := hide (fun (q : Kept W) => ttName_any P q.w)
  have qQ := hide (fun (q : Kept W) => ttName_any Q q.w)
  have qc := hide (fun (q : Kept W) => stringsCompare_any P.t.f0 Q.t.f0 q.w)
  have BW := hide bW
  generalize cmpT P.t.f0.data.toList Q.t.f0.data.toList = cc at qc ⊢
  clear hW hc bW rP rQ zb
  go_enter Try.func144, Try.ntmps144
  go_wp2_with fail
  rw [← unhide HW]
  refine wp_region_kept (by kernel_rfl) (by kernel_rfl) ?_
  repeat (first
    | go_big_quiet_step (first | (go_at_call 120; with_reducible exact kept_call (unhide qP _)) | (go_at_call 120; with_reducible exact kept_call (unhide qQ _)) | (go_at_call 76; exact kept_same (unhide qc _)))
    | quiet_step (first | (go_at_call 120; with_reducible exact kept_call (unhide qP _)) | (go_at_call 120; with_reducible exact kept_call (unhide qQ _)) | (go_at_call 76; exact kept_same (unhide qc _))))
  refine wpQuiet_nil ?_
  rintro _ ⟨q, rfl⟩
  go_wp2_with fail
  go_ret
  exact ⟨rfl, bTr (unhide BW) q.h⟩
set_option maxRecDepth 20000 in
set_option maxHeartbeats 4000000 in
theorem rising_ttBy (bc : Nat) (c : ThingTypeE → ThingTypeE → Int) (h : Hd) (l : List ThingTypeE) (w : World) (hl : l.length ≤ maxLen) (hs : SqThingTypeE w 0 h l)
    (qq : ∀ x ∈ l, ∀ y ∈ l, ∀ w' : World, Below w.heap.size w w' → Calls Try.prog 144 #[.agg #[.string x.t.f0, .slice x.h1.a x.h1.len x.h1.cap, .slice x.h2.a x.h2.len x.h2.cap], .agg #[.string y.t.f0, .slice y.h1.a y.h1.len y.h1.cap, .slice y.h2.a y.h2.len y.h2.cap], .pointer (some ⟨bc, 0, none⟩)] w' fun e w'' => e = .returned (.int .i64 (c x y)) ∧ Below w'.heap.size w' w'') :
    Calls Try.prog 143 #[.slice h.a h.len h.cap, .func (.func 144) #[] #[.pointer (some ⟨bc, 0, none⟩)]] w fun e w' => RetB e (∀ i (h : i + 1 < l.length), c l[i] l[i + 1] < 0) ∧ Below w.heap.size w w' := by
  have HS := hide hs
  have HQ := hide qq
  have HL := hide hs.1
  have hlm : h.len ≤ maxLen := by rw [hs.1]; exact hl
  unfold maxLen at hlm
  obtain ⟨a, len, cap⟩ := h
  simp only at hlm HL
  clear hs qq hl
  go_enter Try.func143, Try.ntmps143
  go_wp2
  go_loopw [5] (fun i w' => ∃ k : Nat, 1 ≤ k ∧ (k ≤ len ∨ k = 1) ∧ i = .int .i64 k ∧ Hid (Below w.heap.size w w') ∧ Hid (∀ i (h : i + 1 < l.length), i + 1 < k → c l[i] l[i + 1] < 0)) (fun i _ => len - (Go.RowKit.intOf i).toNat)
  case atStart => exact ⟨1, Nat.le_refl _, .inr rfl, rfl, hide (Below.refl _ _), hide (fun i _ h => absurd h (by omega))⟩
  case round =>
    obtain ⟨k, hk1, hk, rfl, hb, hris⟩ := hrel
    by_cases hlt : k < len
    · obtain ⟨j, rfl⟩ : ∃ j, k = j + 1 := ⟨k - 1, by omega⟩
      have hk' : j + 1 < l.length := by have := unhide HL; omega
      have hj : j < l.length := by omega
      obtain ⟨b1, off, e0, hrow⟩ := ((unhide HS).keep (unhide hb)).at hlt
      simp only at e0
      subst e0
      have p0 := hrow.c0 (j + 1) hk'
      have p1 := hrow.c1 (j + 1) hk'
      have p2 := hrow.c2 (j + 1) hk'
      have o0 := hrow.c0 j hj
      have o1 := hrow.c1 j hj
      have o2 := hrow.c2 j hj
      have zk := hrow.z
      have qc := hide (fun (q : Kept wr) => unhide HQ l[j] (List.getElem_mem hj) l[j + 1] (List.getElem_mem hk') q.w (bTr (unhide hb) q.h))
      have stepR : Hid (c l[j] l[j + 1] < 0 → ∀ i (h : i + 1 < l.length), i + 1 < j + 1 + 1 → c l[i] l[i + 1] < 0) := hide (fun g i hi h1 => by
        rcases Nat.lt_or_ge i j with h2 | h2
        · exact unhide hris i hi (by omega)
        · obtain rfl : i = j := by omega
          exact g)
      have noR : Hid (¬ c l[j] l[j + 1] < 0 → ¬ ∀ i (h : i + 1 < l.length), c l[i] l[i + 1] < 0) := hide (fun g h => g (h j hk'))
      clear hrow hris
      generalize c l[j] l[j + 1] = cc at qc stepR noR
      generalize l[j + 1] = P at p0 p1 p2 qc
      generalize l[j] = Q at o0 o1 o2 qc
      have ne : Nonempty (Kept wr) := ⟨⟨wr, Below.refl _ _⟩⟩
      have x0 := kept_cell zk p0
      have y0 := kept_cell zk o0
      have x1 := kept_cell zk p1
      have y1 := kept_cell zk o1
      have x2 := kept_cell zk p2
      have y2 := kept_cell zk o2
      have ej : IntKind.i64.wrap ((j : Int) + 1 - 1) = (j : Int) := by rw [IntKind.wrap_i64]; omega
      have i0 : (0 : Int) ≤ (j : Int) := by omega
      have i1 : (j : Int) < (len : Int) := by omega
      have i2 : (j : Int) + 1 < (len : Int) := by omega
      clear p0 o0 p1 o1 p2 o2 zk
      by_cases hc : cc < 0
      · have dc : decide (0 ≤ cc) = false := by simp; omega
        replace stepR := hide (unhide stepR hc)
        clear hc noR
        go_wp2_with fail
        refine wp_region_kept (by kernel_rfl) (by kernel_rfl) ?_
        repeat (first
          | go_big_quiet_step ((go_at_call 144; exact kept_call (unhide qc _)))
          | quiet_step ((go_at_call 144; exact kept_call (unhide qc _))))
        refine wpQuiet_nil ?_
        rintro _ ⟨q, rfl⟩
        go_wp2_with fail
        exact ⟨⟨j + 1 + 1, by omega, by omega, by go_num, hide (bTr (unhide hb) q.h), stepR⟩, by simp [Go.RowKit.intOf]; omega⟩
      · have dc : decide (0 ≤ cc) = true := by simp; omega
        replace noR := hide (unhide noR hc)
        clear hc stepR
        go_wp2_with fail
        refine wp_region_kept (by kernel_rfl) (by kernel_rfl) ?_
        repeat (first
          | go_big_quiet_step ((go_at_call 144; exact kept_call (unhide qc _)))
          | quiet_step ((go_at_call 144; exact kept_call (unhide qc _))))
        refine wpQuiet_nil ?_
        rintro _ ⟨q, rfl⟩
        go_wp2_with fail
        go_ret
        exact ⟨retB (b := false) ⟨fun h => (by cases h), fun h => absurd h (unhide noR)⟩, bTr (unhide hb) q.h⟩
    · have hR : Hid (∀ i (h : i + 1 < l.length), c l[i] l[i + 1] < 0) := hide (fun i h => unhide hris i h (by have := unhide HL; omega))
      clear hris
      go_wp2_with fail
      go_ret
      exact ⟨retB (b := true) ⟨fun _ => unhide hR, fun _ => rfl⟩, unhide hb⟩
set_option maxHeartbeats 1000000 in
theorem byName_tt (h : Hd) (l : List ThingTypeE) (w : World) (hl : l.length ≤ maxLen) (hs : SqThingTypeE w 0 h l) :
    Calls Try.prog 119 #[.slice h.a h.len h.cap, .func (.func 120) #[] #[]] w fun e w' => RetB e (∀ i (h : i + 1 < l.length), cmpT l[i].t.f0.data.toList l[i + 1].t.f0.data.toList < 0) ∧ Below w.heap.size w w' := by
  obtain ⟨W, hW⟩ : ∃ W, W = w.alloc (.cells #[.func (.func 120) #[] #[]] 170) := ⟨_, rfl⟩
  have bW : Below w.heap.size w W := by rw [hW]; exact bAl (Below.refl _ _) _
  have rW : RowIs W w.heap.size #[.func (.func 120) #[] #[]] 170 := by rw [hW]; exact RowIs.new w _ _
  have q := hide (rising_ttBy w.heap.size (fun x y => cmpT x.t.f0.data.toList y.t.f0.data.toList) h l W hl (hs.keep bW) (fun x _ y _ w' hb => ttBy_any w.heap.size x y w' ((rW.keep hb).at rfl)))
  have HW := hide hW.symm
  have B := hide bW
  clear hW hs hl bW rW
  go_enter Try.func119, Try.ntmps119
  go_wp2_with fail
  rw [unhide HW]
  refine (unhide q).mono ?_
  rintro e w1 ⟨⟨v, rfl, hv⟩, hb⟩
  have HV := hide hv
  have B1 := hide (bTr (unhide B) hb)
  clear hv hb q HW B
  go_wp2_with fail
  go_ret
  exact ⟨retB (b := v) (unhide HV), unhide B1⟩
set_option maxHeartbeats 400000 in
theorem atName_any (x : ActionTypeE) (w : World) : Calls Try.prog 122 #[.agg #[.string x.t.f0, .slice x.h1.a x.h1.len x.h1.cap, .slice x.h2.a x.h2.len x.h2.cap, .slice x.h3.a x.h3.len x.h3.cap]] w fun r w' => r = .returned (.string x.t.f0) ∧ Below w.heap.size w w' := by
  go_enter Try.func122, Try.ntmps122
  go_wp2_with fail
  go_ret
  exact ⟨rfl, bAl (Below.refl _ _) _⟩
set_option maxRecDepth 20000 in
set_option maxHeartbeats 2000000 in
theorem atBy_any (bc : Nat) (P Q : ActionTypeE) (w : World) (hc : w.cell? ⟨bc, 0, none⟩ = some (.func (.func 122) #[] #[])) :
    Calls Try.prog 146 #[.agg #[.string P.t.f0, .slice P.h1.a P.h1.len P.h1.cap, .slice P.h2.a P.h2.len P.h2.cap, .slice P.h3.a P.h3.len P.h3.cap], .agg #[.string Q.t.f0, .slice Q.h1.a Q.h1.len Q.h1.cap, .slice Q.h2.a Q.h2.len Q.h2.cap, .slice Q.h3.a Q.h3.len Q.h3.cap], .pointer (some ⟨bc, 0, none⟩)] w fun r w' => r = .returned (.int .i64 (cmpT P.t.f0.data.toList Q.t.f0.data.toList)) ∧ Below w.heap.size w w' := by
  have zb : bc < w.heap.size := World.block_lt_of_cell? w ⟨bc, 0, none⟩ hc
  obtain ⟨W, hW⟩ : ∃ W, W = (w.alloc (.cells #[.string P.t.f0, .slice P.h1.a P.h1.len P.h1.cap, .slice P.h2.a P.h2.len P.h2.cap, .slice P.h3.a P.h3.len P.h3.cap] 96)).alloc (.cells #[.string Q.t.f0, .slice Q.h1.a Q.h1.len Q.h1.cap, .slice Q.h2.a Q.h2.len Q.h2.cap, .slice Q.h3.a Q.h3.len Q.h3.cap] 96) := ⟨_, rfl⟩
  have bW : Below w.heap.size w W := by rw [hW]; exact bAl (bAl (Below.refl _ _) _) _
  have rP : RowIs W w.heap.size #[.string P.t.f0, .slice P.h1.a P.h1.len P.h1.cap, .slice P.h2.a P.h2.len P.h2.cap, .slice P.h3.a P.h3.len P.h3.cap] 96 := by rw [hW]; exact (RowIs.new w _ _).keep (bAl (Below.refl _ _) _)
  have rQ : RowIs W (w.heap.size + 1) #[.string Q.t.f0, .slice Q.h1.a Q.h1.len Q.h1.cap, .slice Q.h2.a Q.h2.len Q.h2.cap, .slice Q.h3.a Q.h3.len Q.h3.cap] 96 := by rw [hW]; have := RowIs.new (w.alloc (.cells #[.string P.t.f0, .slice P.h1.a P.h1.len P.h1.cap, .slice P.h2.a P.h2.len P.h2.cap, .slice P.h3.a P.h3.len P.h3.cap] 96)) #[.string Q.t.f0, .slice Q.h1.a Q.h1.len Q.h1.cap, .slice Q.h2.a Q.h2.len Q.h2.cap, .slice Q.h3.a Q.h3.len Q.h3.cap] 96; simpa using this
  have HW := hide hW
  have x0 := kept_cell (W := W) (p := ⟨w.heap.size, 0, none⟩) rP.lt (rP.at (o := 0) (v := .string P.t.f0) rfl)
  have y0 := kept_cell (W := W) (p := ⟨w.heap.size + 1, 0, none⟩) rQ.lt (rQ.at (o := 0) (v := .string Q.t.f0) rfl)
  have x1 := kept_cell (W := W) (p := ⟨w.heap.size, 1, none⟩) rP.lt (rP.at (o := 1) (v := .slice P.h1.a P.h1.len P.h1.cap) rfl)
  have y1 := kept_cell (W := W) (p := ⟨w.heap.size + 1, 1, none⟩) rQ.lt (rQ.at (o := 1) (v := .slice Q.h1.a Q.h1.len Q.h1.cap) rfl)
  have x2 := kept_cell (W := W) (p := ⟨w.heap.size, 2, none⟩) rP.lt (rP.at (o := 2) (v := .slice P.h2.a P.h2.len P.h2.cap) rfl)
  have y2 := kept_cell (W := W) (p := ⟨w.heap.size + 1, 2, none⟩) rQ.lt (rQ.at (o := 2) (v := .slice Q.h2.a Q.h2.len Q.h2.cap) rfl)
  have x3 := kept_cell (W := W) (p := ⟨w.heap.size, 3, none⟩) rP.lt (rP.at (o := 3) (v := .slice P.h3.a P.h3.len P.h3.cap) rfl)
  have y3 := kept_cell (W := W) (p := ⟨w.heap.size + 1, 3, none⟩) rQ.lt (rQ.at (o := 3) (v := .slice Q.h3.a Q.h3.len Q.h3.cap) rfl)
  have z0 := kept_cell (W := W) (p := ⟨bc, 0, none⟩) (Nat.lt_of_lt_of_le zb bW.size) (cellB bW zb hc)
  have ne : Nonempty (Kept W) := ⟨⟨W, Below.refl _ _⟩⟩
  have qP := hide (fun (q : Kept W) => atName_any P q.w)
  have qQ := hide (fun (q : Kept W) => atName_any Q q.w)
  have qc := hide (fun (q : Kept W) => stringsCompare_any P.t.f0 Q.t.f0 q.w)
  have BW := hide bW
  generalize cmpT P.t.f0.data.toList Q.t.f0.data.toList = cc at qc ⊢
  clear hW hc bW rP rQ zb
  go_enter Try.func146, Try.ntmps146
  go_wp2_with fail
  rw [← unhide HW]
  refine wp_region_kept (by kernel_rfl) (by kernel_rfl) ?_
  repeat (first
    | go_big_quiet_step (first | (go_at_call 122; with_reducible exact kept_call (unhide qP _)) | (go_at_call 122; with_reducible exact kept_call (unhide qQ _)) | (go_at_call 76; exact kept_same (unhide qc _)))
    | quiet_step (first | (go_at_call 122; with_reducible exact kept_call (unhide qP _)) | (go_at_call 122; with_reducible exact kept_call (unhide qQ _)) | (go_at_call 76; exact kept_same (unhide qc _))))
  refine wpQuiet_nil ?_
  rintro _ ⟨q, rfl⟩
  go_wp2_with fail
  go_ret
  exact ⟨rfl, bTr (unhide BW) q.h⟩
set_option maxRecDepth 20000 in
set_option maxHeartbeats 4000000 in
theorem rising_atBy (bc : Nat) (c : ActionTypeE → ActionTypeE → Int) (h : Hd) (l : List ActionTypeE) (w : World) (hl : l.length ≤ maxLen) (hs : SqActionTypeE w 0 h l)
    (qq : ∀ x ∈ l, ∀ y ∈ l, ∀ w' : World, Below w.heap.size w w' → Calls Try.prog 146 #[.agg #[.string x.t.f0, .slice x.h1.a x.h1.len x.h1.cap, .slice x.h2.a x.h2.len x.h2.cap, .slice x.h3.a x.h3.len x.h3.cap], .agg #[.string y.t.f0, .slice y.h1.a y.h1.len y.h1.cap, .slice y.h2.a y.h2.len y.h2.cap, .slice y.h3.a y.h3.len y.h3.cap], .pointer (some ⟨bc, 0, none⟩)] w' fun e w'' => e = .returned (.int .i64 (c x y)) ∧ Below w'.heap.size w' w'') :
    Calls Try.prog 145 #[.slice h.a h.len h.cap, .func (.func 146) #[] #[.pointer (some ⟨bc, 0, none⟩)]] w fun e w' => RetB e (∀ i (h : i + 1 < l.length), c l[i] l[i + 1] < 0) ∧ Below w.heap.size w w' := by
  have HS := hide hs
  have HQ := hide qq
  have HL := hide hs.1
  have hlm : h.len ≤ maxLen := by rw [hs.1]; exact hl
  unfold maxLen at hlm
  obtain ⟨a, len, cap⟩ := h
  simp only at hlm HL
  clear hs qq hl
  go_enter Try.func145, Try.ntmps145
  go_wp2
  go_loopw [5] (fun i w' => ∃ k : Nat, 1 ≤ k ∧ (k ≤ len ∨ k = 1) ∧ i = .int .i64 k ∧ Hid (Below w.heap.size w w') ∧ Hid (∀ i (h : i + 1 < l.length), i + 1 < k → c l[i] l[i + 1] < 0)) (fun i _ => len - (Go.RowKit.intOf i).toNat)
  case atStart => exact ⟨1, Nat.le_refl _, .inr rfl, rfl, hide (Below.refl _ _), hide (fun i _ h => absurd h (by omega))⟩
  case round =>
    obtain ⟨k, hk1, hk, rfl, hb, hris⟩ := hrel
    by_cases hlt : k < len
    · obtain ⟨j, rfl⟩ : ∃ j, k = j + 1 := ⟨k - 1, by omega⟩
      have hk' : j + 1 < l.length := by have := unhide HL; omega
      have hj : j < l.length := by omega
      obtain ⟨b1, off, e0, hrow⟩ := ((unhide HS).keep (unhide hb)).at hlt
      simp only at e0
      subst e0
      have p0 := hrow.c0 (j + 1) hk'
      have p1 := hrow.c1 (j + 1) hk'
      have p2 := hrow.c2 (j + 1) hk'
      have p3 := hrow.c3 (j + 1) hk'
      have o0 := hrow.c0 j hj
      have o1 := hrow.c1 j hj
      have o2 := hrow.c2 j hj
      have o3 := hrow.c3 j hj
      have zk := hrow.z
      have qc := hide (fun (q : Kept wr) => unhide HQ l[j] (List.getElem_mem hj) l[j + 1] (List.getElem_mem hk') q.w (bTr (unhide hb) q.h))
      have stepR : Hid (c l[j] l[j + 1] < 0 → ∀ i (h : i + 1 < l.length), i + 1 < j + 1 + 1 → c l[i] l[i + 1] < 0) := hide (fun g i hi h1 => by
        rcases Nat.lt_or_ge i j with h2 | h2
        · exact unhide hris i hi (by omega)
        · obtain rfl : i = j := by omega
          exact g)
      have noR : Hid (¬ c l[j] l[j + 1] < 0 → ¬ ∀ i (h : i + 1 < l.length), c l[i] l[i + 1] < 0) := hide (fun g h => g (h j hk'))
      clear hrow hris
      generalize c l[j] l[j + 1] = cc at qc stepR noR
      generalize l[j + 1] = P at p0 p1 p2 p3 qc
      generalize l[j] = Q at o0 o1 o2 o3 qc
      have ne : Nonempty (Kept wr) := ⟨⟨wr, Below.refl _ _⟩⟩
      have x0 := kept_cell zk p0
      have y0 := kept_cell zk o0
      have x1 := kept_cell zk p1
      have y1 := kept_cell zk o1
      have x2 := kept_cell zk p2
      have y2 := kept_cell zk o2
      have x3 := kept_cell zk p3
      have y3 := kept_cell zk o3
      have ej : IntKind.i64.wrap ((j : Int) + 1 - 1) = (j : Int) := by rw [IntKind.wrap_i64]; omega
      have i0 : (0 : Int) ≤ (j : Int) := by omega
      have i1 : (j : Int) < (len : Int) := by omega
      have i2 : (j : Int) + 1 < (len : Int) := by omega
      clear p0 o0 p1 o1 p2 o2 p3 o3 zk
      by_cases hc : cc < 0
      · have dc : decide (0 ≤ cc) = false := by simp; omega
        replace stepR := hide (unhide stepR hc)
        clear hc noR
        go_wp2_with fail
        refine wp_region_kept (by kernel_rfl) (by kernel_rfl) ?_
        repeat (first
          | go_big_quiet_step ((go_at_call 146; exact kept_call (unhide qc _)))
          | quiet_step ((go_at_call 146; exact kept_call (unhide qc _))))
        refine wpQuiet_nil ?_
        rintro _ ⟨q, rfl⟩
        go_wp2_with fail
        exact ⟨⟨j + 1 + 1, by omega, by omega, by go_num, hide (bTr (unhide hb) q.h), stepR⟩, by simp [Go.RowKit.intOf]; omega⟩
      · have dc : decide (0 ≤ cc) = true := by simp; omega
        replace noR := hide (unhide noR hc)
        clear hc stepR
        go_wp2_with fail
        refine wp_region_kept (by kernel_rfl) (by kernel_rfl) ?_
        repeat (first
          | go_big_quiet_step ((go_at_call 146; exact kept_call (unhide qc _)))
          | quiet_step ((go_at_call 146; exact kept_call (unhide qc _))))
        refine wpQuiet_nil ?_
        rintro _ ⟨q, rfl⟩
        go_wp2_with fail
        go_ret
        exact ⟨retB (b := false) ⟨fun h => (by cases h), fun h => absurd h (unhide noR)⟩, bTr (unhide hb) q.h⟩
    · have hR : Hid (∀ i (h : i + 1 < l.length), c l[i] l[i + 1] < 0) := hide (fun i h => unhide hris i h (by have := unhide HL; omega))
      clear hris
      go_wp2_with fail
      go_ret
      exact ⟨retB (b := true) ⟨fun _ => unhide hR, fun _ => rfl⟩, unhide hb⟩
set_option maxHeartbeats 1000000 in
theorem byName_at (h : Hd) (l : List ActionTypeE) (w : World) (hl : l.length ≤ maxLen) (hs : SqActionTypeE w 0 h l) :
    Calls Try.prog 121 #[.slice h.a h.len h.cap, .func (.func 122) #[] #[]] w fun e w' => RetB e (∀ i (h : i + 1 < l.length), cmpT l[i].t.f0.data.toList l[i + 1].t.f0.data.toList < 0) ∧ Below w.heap.size w w' := by
  obtain ⟨W, hW⟩ : ∃ W, W = w.alloc (.cells #[.func (.func 122) #[] #[]] 172) := ⟨_, rfl⟩
  have bW : Below w.heap.size w W := by rw [hW]; exact bAl (Below.refl _ _) _
  have rW : RowIs W w.heap.size #[.func (.func 122) #[] #[]] 172 := by rw [hW]; exact RowIs.new w _ _
  have q := hide (rising_atBy w.heap.size (fun x y => cmpT x.t.f0.data.toList y.t.f0.data.toList) h l W hl (hs.keep bW) (fun x _ y _ w' hb => atBy_any w.heap.size x y w' ((rW.keep hb).at rfl)))
  have HW := hide hW.symm
  have B := hide bW
  clear hW hs hl bW rW
  go_enter Try.func121, Try.ntmps121
  go_wp2_with fail
  rw [unhide HW]
  refine (unhide q).mono ?_
  rintro e w1 ⟨⟨v, rfl, hv⟩, hb⟩
  have HV := hide hv
  have B1 := hide (bTr (unhide B) hb)
  clear hv hb q HW B
  go_wp2_with fail
  go_ret
  exact ⟨retB (b := v) (unhide HV), unhide B1⟩
set_option maxHeartbeats 400000 in
theorem akName_any (x : AttrKindE) (w : World) : Calls Try.prog 152 #[.agg #[.string x.t.f0, .string x.t.f1, .bool x.t.f2]] w fun r w' => r = .returned (.string x.t.f0) ∧ Below w.heap.size w w' := by
  go_enter Try.func152, Try.ntmps152
  go_wp2_with fail
  go_ret
  exact ⟨rfl, bAl (Below.refl _ _) _⟩
set_option maxRecDepth 20000 in
set_option maxHeartbeats 2000000 in
theorem akBy_any (bc : Nat) (P Q : AttrKindE) (w : World) (hc : w.cell? ⟨bc, 0, none⟩ = some (.func (.func 152) #[] #[])) :
    Calls Try.prog 166 #[.agg #[.string P.t.f0, .string P.t.f1, .bool P.t.f2], .agg #[.string Q.t.f0, .string Q.t.f1, .bool Q.t.f2], .pointer (some ⟨bc, 0, none⟩)] w fun r w' => r = .returned (.int .i64 (cmpT P.t.f0.data.toList Q.t.f0.data.toList)) ∧ Below w.heap.size w w' := by
  have zb : bc < w.heap.size := World.block_lt_of_cell? w ⟨bc, 0, none⟩ hc
  obtain ⟨W, hW⟩ : ∃ W, W = (w.alloc (.cells #[.string P.t.f0, .string P.t.f1, .bool P.t.f2] 138)).alloc (.cells #[.string Q.t.f0, .string Q.t.f1, .bool Q.t.f2] 138) := ⟨_, rfl⟩
  have bW : Below w.heap.size w W := by rw [hW]; exact bAl (bAl (Below.refl _ _) _) _
  have rP : RowIs W w.heap.size #[.string P.t.f0, .string P.t.f1, .bool P.t.f2] 138 := by rw [hW]; exact (RowIs.new w _ _).keep (bAl (Below.refl _ _) _)
  have rQ : RowIs W (w.heap.size + 1) #[.string Q.t.f0, .string Q.t.f1, .bool Q.t.f2] 138 := by rw [hW]; have := RowIs.new (w.alloc (.cells #[.string P.t.f0, .string P.t.f1, .bool P.t.f2] 138)) #[.string Q.t.f0, .string Q.t.f1, .bool Q.t.f2] 138; simpa using this
  have HW := hide hW
  have x0 := kept_cell (W := W) (p := ⟨w.heap.size, 0, none⟩) rP.lt (rP.at (o := 0) (v := .string P.t.f0) rfl)
  have y0 := kept_cell (W := W) (p := ⟨w.heap.size + 1, 0, none⟩) rQ.lt (rQ.at (o := 0) (v := .string Q.t.f0) rfl)
  have x1 := kept_cell (W := W) (p := ⟨w.heap.size, 1, none⟩) rP.lt (rP.at (o := 1) (v := .string P.t.f1) rfl)
  have y1 := kept_cell (W := W) (p := ⟨w.heap.size + 1, 1, none⟩) rQ.lt (rQ.at (o := 1) (v := .string Q.t.f1) rfl)
  have x2 := kept_cell (W := W) (p := ⟨w.heap.size, 2, none⟩) rP.lt (rP.at (o := 2) (v := .bool P.t.f2) rfl)
  have y2 := kept_cell (W := W) (p := ⟨w.heap.size + 1, 2, none⟩) rQ.lt (rQ.at (o := 2) (v := .bool Q.t.f2) rfl)
  have z0 := kept_cell (W := W) (p := ⟨bc, 0, none⟩) (Nat.lt_of_lt_of_le zb bW.size) (cellB bW zb hc)
  have ne : Nonempty (Kept W) := ⟨⟨W, Below.refl _ _⟩⟩
  have qP := hide (fun (q : Kept W) => akName_any P q.w)
  have qQ := hide (fun (q : Kept W) => akName_any Q q.w)
  have qc := hide (fun (q : Kept W) => stringsCompare_any P.t.f0 Q.t.f0 q.w)
  have BW := hide bW
  generalize cmpT P.t.f0.data.toList Q.t.f0.data.toList = cc at qc ⊢
  clear hW hc bW rP rQ zb
  go_enter Try.func166, Try.ntmps166
  go_wp2_with fail
  rw [← unhide HW]
  refine wp_region_kept (by kernel_rfl) (by kernel_rfl) ?_
  repeat (first
    | go_big_quiet_step (first | (go_at_call 152; with_reducible exact kept_call (unhide qP _)) | (go_at_call 152; with_reducible exact kept_call (unhide qQ _)) | (go_at_call 76; exact kept_same (unhide qc _)))
    | quiet_step (first | (go_at_call 152; with_reducible exact kept_call (unhide qP _)) | (go_at_call 152; with_reducible exact kept_call (unhide qQ _)) | (go_at_call 76; exact kept_same (unhide qc _))))
  refine wpQuiet_nil ?_
  rintro _ ⟨q, rfl⟩
  go_wp2_with fail
  go_ret
  exact ⟨rfl, bTr (unhide BW) q.h⟩
set_option maxRecDepth 20000 in
set_option maxHeartbeats 4000000 in
theorem rising_akBy (bc : Nat) (c : AttrKindE → AttrKindE → Int) (h : Hd) (l : List AttrKindE) (w : World) (hl : l.length ≤ maxLen) (hs : SqAttrKindE w 0 h l)
    (qq : ∀ x ∈ l, ∀ y ∈ l, ∀ w' : World, Below w.heap.size w w' → Calls Try.prog 166 #[.agg #[.string x.t.f0, .string x.t.f1, .bool x.t.f2], .agg #[.string y.t.f0, .string y.t.f1, .bool y.t.f2], .pointer (some ⟨bc, 0, none⟩)] w' fun e w'' => e = .returned (.int .i64 (c x y)) ∧ Below w'.heap.size w' w'') :
    Calls Try.prog 165 #[.slice h.a h.len h.cap, .func (.func 166) #[] #[.pointer (some ⟨bc, 0, none⟩)]] w fun e w' => RetB e (∀ i (h : i + 1 < l.length), c l[i] l[i + 1] < 0) ∧ Below w.heap.size w w' := by
  have HS := hide hs
  have HQ := hide qq
  have HL := hide hs.1
  have hlm : h.len ≤ maxLen := by rw [hs.1]; exact hl
  unfold maxLen at hlm
  obtain ⟨a, len, cap⟩ := h
  simp only at hlm HL
  clear hs qq hl
  go_enter Try.func165, Try.ntmps165
  go_wp2
  go_loopw [5] (fun i w' => ∃ k : Nat, 1 ≤ k ∧ (k ≤ len ∨ k = 1) ∧ i = .int .i64 k ∧ Hid (Below w.heap.size w w') ∧ Hid (∀ i (h : i + 1 < l.length), i + 1 < k → c l[i] l[i + 1] < 0)) (fun i _ => len - (Go.RowKit.intOf i).toNat)
  case atStart => exact ⟨1, Nat.le_refl _, .inr rfl, rfl, hide (Below.refl _ _), hide (fun i _ h => absurd h (by omega))⟩
  case round =>
    obtain ⟨k, hk1, hk, rfl, hb, hris⟩ := hrel
    by_cases hlt : k < len
    · obtain ⟨j, rfl⟩ : ∃ j, k = j + 1 := ⟨k - 1, by omega⟩
      have hk' : j + 1 < l.length := by have := unhide HL; omega
      have hj : j < l.length := by omega
      obtain ⟨b1, off, e0, hrow⟩ := ((unhide HS).keep (unhide hb)).at hlt
      simp only at e0
      subst e0
      have p0 := hrow.c0 (j + 1) hk'
      have p1 := hrow.c1 (j + 1) hk'
      have p2 := hrow.c2 (j + 1) hk'
      have o0 := hrow.c0 j hj
      have o1 := hrow.c1 j hj
      have o2 := hrow.c2 j hj
      have zk := hrow.z
      have qc := hide (fun (q : Kept wr) => unhide HQ l[j] (List.getElem_mem hj) l[j + 1] (List.getElem_mem hk') q.w (bTr (unhide hb) q.h))
      have stepR : Hid (c l[j] l[j + 1] < 0 → ∀ i (h : i + 1 < l.length), i + 1 < j + 1 + 1 → c l[i] l[i + 1] < 0) := hide (fun g i hi h1 => by
        rcases Nat.lt_or_ge i j with h2 | h2
        · exact unhide hris i hi (by omega)
        · obtain rfl : i = j := by omega
          exact g)
      have noR : Hid (¬ c l[j] l[j + 1] < 0 → ¬ ∀ i (h : i + 1 < l.length), c l[i] l[i + 1] < 0) := hide (fun g h => g (h j hk'))
      clear hrow hris
      generalize c l[j] l[j + 1] = cc at qc stepR noR
      generalize l[j + 1] = P at p0 p1 p2 qc
      generalize l[j] = Q at o0 o1 o2 qc
      have ne : Nonempty (Kept wr) := ⟨⟨wr, Below.refl _ _⟩⟩
      have x0 := kept_cell zk p0
      have y0 := kept_cell zk o0
      have x1 := kept_cell zk p1
      have y1 := kept_cell zk o1
      have x2 := kept_cell zk p2
      have y2 := kept_cell zk o2
      have ej : IntKind.i64.wrap ((j : Int) + 1 - 1) = (j : Int) := by rw [IntKind.wrap_i64]; omega
      have i0 : (0 : Int) ≤ (j : Int) := by omega
      have i1 : (j : Int) < (len : Int) := by omega
      have i2 : (j : Int) + 1 < (len : Int) := by omega
      clear p0 o0 p1 o1 p2 o2 zk
      by_cases hc : cc < 0
      · have dc : decide (0 ≤ cc) = false := by simp; omega
        replace stepR := hide (unhide stepR hc)
        clear hc noR
        go_wp2_with fail
        refine wp_region_kept (by kernel_rfl) (by kernel_rfl) ?_
        repeat (first
          | go_big_quiet_step ((go_at_call 166; exact kept_call (unhide qc _)))
          | quiet_step ((go_at_call 166; exact kept_call (unhide qc _))))
        refine wpQuiet_nil ?_
        rintro _ ⟨q, rfl⟩
        go_wp2_with fail
        exact ⟨⟨j + 1 + 1, by omega, by omega, by go_num, hide (bTr (unhide hb) q.h), stepR⟩, by simp [Go.RowKit.intOf]; omega⟩
      · have dc : decide (0 ≤ cc) = true := by simp; omega
        replace noR := hide (unhide noR hc)
        clear hc stepR
        go_wp2_with fail
        refine wp_region_kept (by kernel_rfl) (by kernel_rfl) ?_
        repeat (first
          | go_big_quiet_step ((go_at_call 166; exact kept_call (unhide qc _)))
          | quiet_step ((go_at_call 166; exact kept_call (unhide qc _))))
        refine wpQuiet_nil ?_
        rintro _ ⟨q, rfl⟩
        go_wp2_with fail
        go_ret
        exact ⟨retB (b := false) ⟨fun h => (by cases h), fun h => absurd h (unhide noR)⟩, bTr (unhide hb) q.h⟩
    · have hR : Hid (∀ i (h : i + 1 < l.length), c l[i] l[i + 1] < 0) := hide (fun i h => unhide hris i h (by have := unhide HL; omega))
      clear hris
      go_wp2_with fail
      go_ret
      exact ⟨retB (b := true) ⟨fun _ => unhide hR, fun _ => rfl⟩, unhide hb⟩
set_option maxHeartbeats 1000000 in
theorem byName_ak (h : Hd) (l : List AttrKindE) (w : World) (hl : l.length ≤ maxLen) (hs : SqAttrKindE w 0 h l) :
    Calls Try.prog 151 #[.slice h.a h.len h.cap, .func (.func 152) #[] #[]] w fun e w' => RetB e (∀ i (h : i + 1 < l.length), cmpT l[i].t.f0.data.toList l[i + 1].t.f0.data.toList < 0) ∧ Below w.heap.size w w' := by
  obtain ⟨W, hW⟩ : ∃ W, W = w.alloc (.cells #[.func (.func 152) #[] #[]] 191) := ⟨_, rfl⟩
  have bW : Below w.heap.size w W := by rw [hW]; exact bAl (Below.refl _ _) _
  have rW : RowIs W w.heap.size #[.func (.func 152) #[] #[]] 191 := by rw [hW]; exact RowIs.new w _ _
  have q := hide (rising_akBy w.heap.size (fun x y => cmpT x.t.f0.data.toList y.t.f0.data.toList) h l W hl (hs.keep bW) (fun x _ y _ w' hb => akBy_any w.heap.size x y w' ((rW.keep hb).at rfl)))
  have HW := hide hW.symm
  have B := hide bW
  clear hW hs hl bW rW
  go_enter Try.func151, Try.ntmps151
  go_wp2_with fail
  rw [unhide HW]
  refine (unhide q).mono ?_
  rintro e w1 ⟨⟨v, rfl, hv⟩, hb⟩
  have HV := hide hv
  have B1 := hide (bTr (unhide B) hb)
  clear hv hb q HW B
  go_wp2_with fail
  go_ret
  exact ⟨retB (b := v) (unhide HV), unhide B1⟩
end Go.Proofs.Ytkfbecelfkbkkaa.V
