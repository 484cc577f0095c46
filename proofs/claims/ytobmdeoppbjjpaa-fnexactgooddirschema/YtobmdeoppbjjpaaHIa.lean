/- impl.goodType, orders, goodTypeNames. -/
import Derived.Test.YtobmdeoppbjjpaaHPu
import Derived.Test.YtobmdeoppbjjpaaWValJ
import Derived.BigQuiet
namespace Go.Proofs.Ytobmdeoppbjjpaa.V
set_option linter.unusedSimpArgs false
set_option linter.unusedVariables false
open Go.RowKit Go.Maps

set_option maxHeartbeats 1000000 in
theorem goodType_n (e : AttrTypeE) (w : World) (hn : AttrTypeN e.t) :
    Calls Try.prog 30 #[.agg #[.string e.t.f0, .int .i64 e.t.f1, .bool e.t.f2]] w fun r w' => RetB r (GTy e.t) ∧ Below w.heap.size w w' := by
  have q := hide (iGoodName_any e.t.f0 hn.o0)
  have B := hide (bAl (Below.refl w.heap.size w) (.cells #[.string e.t.f0, .int .i64 e.t.f1, .bool e.t.f2] 38))
  have R := hide (RowIs.new w #[.string e.t.f0, .int .i64 e.t.f1, .bool e.t.f2] 38)
  have D : Hid (GTy e.t ↔ goodName e.t.f0 = true ∧ 1 ≤ e.t.f1 ∧ e.t.f1 ≤ 4) := hide Iff.rfl
  generalize GTy e.t = G at D ⊢
  obtain ⟨⟨f0, f1, f2⟩⟩ := e
  simp only at *
  clear hn
  go_enter Try.func30, Try.ntmps30
  go_wp2_with fail
  refine (unhide q _).mono ?_
  rintro r w1 ⟨rfl, hb⟩
  replace R := hide ((unhide R).keep hb)
  replace B := hide (bTr (unhide B) hb)
  have c1 := (unhide R).at (o := 1) (v := .int .i64 f1) rfl
  clear hb q R
  generalize goodName f0 = g0 at D ⊢
  cases g0
  · have no : Hid (¬ G) := hide (fun g => by have := ((unhide D).1 g).1; cases this)
    clear D
    go_wp2_with fail
    go_ret
    exact ⟨retB (b := false) ⟨fun h => (by cases h), fun h => absurd h (unhide no)⟩, unhide B⟩
  · have D2 : Hid (G ↔ 1 ≤ f1 ∧ f1 ≤ 4) := hide ((unhide D).trans ⟨fun h => h.2, fun h => ⟨rfl, h⟩⟩)
    clear D
    by_cases h1 : 1 ≤ f1
    · by_cases h2 : f1 ≤ 4
      · have yes : Hid G := hide ((unhide D2).2 ⟨h1, h2⟩)
        have d1 : decide (1 ≤ f1) = true := by simpa using h1
        have d2 : decide (f1 ≤ 4) = true := by simpa using h2
        clear D2
        go_wp2_with fail
        go_ret
        exact ⟨retB (b := true) ⟨fun _ => unhide yes, fun _ => rfl⟩, unhide B⟩
      · have no : Hid (¬ G) := hide (fun g => h2 ((unhide D2).1 g).2)
        have d1 : decide (1 ≤ f1) = true := by simpa using h1
        have d2 : decide (f1 ≤ 4) = false := by simpa using h2
        clear D2
        go_wp2_with fail
        go_ret
        exact ⟨retB (b := false) ⟨fun h => (by cases h), fun h => absurd h (unhide no)⟩, unhide B⟩
    · have no : Hid (¬ G) := hide (fun g => h1 ((unhide D2).1 g).1)
      have d1 : decide (1 ≤ f1) = false := by simpa using h1
      clear D2
      go_wp2_with fail
      go_ret
      exact ⟨retB (b := false) ⟨fun h => (by cases h), fun h => absurd h (unhide no)⟩, unhide B⟩
set_option maxRecDepth 20000 in
set_option maxHeartbeats 2000000 in
theorem ayBy_any (P Q : AttrTypeE) (w : World) :
    Calls Try.prog 31 #[.agg #[.string P.t.f0, .int .i64 P.t.f1, .bool P.t.f2], .agg #[.string Q.t.f0, .int .i64 Q.t.f1, .bool Q.t.f2]] w fun r w' => r = .returned (.int .i64 (cmpT P.t.f0.data.toList Q.t.f0.data.toList)) ∧ Below w.heap.size w w' := by
  obtain ⟨W, hW⟩ : ∃ W, W = (w.alloc (.cells #[.string P.t.f0, .int .i64 P.t.f1, .bool P.t.f2] 38)).alloc (.cells #[.string Q.t.f0, .int .i64 Q.t.f1, .bool Q.t.f2] 38) := ⟨_, rfl⟩
  have bW : Below w.heap.size w W := by rw [hW]; exact bAl (bAl (Below.refl _ _) _) _
  have rP : RowIs W w.heap.size #[.string P.t.f0, .int .i64 P.t.f1, .bool P.t.f2] 38 := by rw [hW]; exact (RowIs.new w _ _).keep (bAl (Below.refl _ _) _)
  have rQ : RowIs W (w.heap.size + 1) #[.string Q.t.f0, .int .i64 Q.t.f1, .bool Q.t.f2] 38 := by rw [hW]; have := RowIs.new (w.alloc (.cells #[.string P.t.f0, .int .i64 P.t.f1, .bool P.t.f2] 38)) #[.string Q.t.f0, .int .i64 Q.t.f1, .bool Q.t.f2] 38; simpa using this
  have HW := hide hW
  have x0 := rP.at (o := 0) (v := .string P.t.f0) rfl
  have y0 := rQ.at (o := 0) (v := .string Q.t.f0) rfl
  have qc := hide (fun w => stringsCompare_any P.t.f0 Q.t.f0 w)
  have BW := hide bW
  generalize cmpT P.t.f0.data.toList Q.t.f0.data.toList = cc at qc ⊢
  clear hW bW rP rQ
  go_enter Try.func31, Try.ntmps31
  go_wp2_with fail
  rw [← unhide HW]
  go_wp2_with (go_at_call 32; refine (unhide qc _).mono ?_; rintro e w' ⟨rfl, rfl⟩)
  go_ret
  exact ⟨rfl, unhide BW⟩
set_option maxRecDepth 20000 in
set_option maxHeartbeats 2000000 in
theorem clBy_any (P Q : ClassE) (w : World) :
    Calls Try.prog 36 #[.agg #[.string P.t.f0, .string P.t.f1, .slice P.h2.a P.h2.len P.h2.cap, .slice P.h3.a P.h3.len P.h3.cap], .agg #[.string Q.t.f0, .string Q.t.f1, .slice Q.h2.a Q.h2.len Q.h2.cap, .slice Q.h3.a Q.h3.len Q.h3.cap]] w fun r w' => r = .returned (.int .i64 (cmpT P.t.f0.data.toList Q.t.f0.data.toList)) ∧ Below w.heap.size w w' := by
  obtain ⟨W, hW⟩ : ∃ W, W = (w.alloc (.cells #[.string P.t.f0, .string P.t.f1, .slice P.h2.a P.h2.len P.h2.cap, .slice P.h3.a P.h3.len P.h3.cap] 45)).alloc (.cells #[.string Q.t.f0, .string Q.t.f1, .slice Q.h2.a Q.h2.len Q.h2.cap, .slice Q.h3.a Q.h3.len Q.h3.cap] 45) := ⟨_, rfl⟩
  have bW : Below w.heap.size w W := by rw [hW]; exact bAl (bAl (Below.refl _ _) _) _
  have rP : RowIs W w.heap.size #[.string P.t.f0, .string P.t.f1, .slice P.h2.a P.h2.len P.h2.cap, .slice P.h3.a P.h3.len P.h3.cap] 45 := by rw [hW]; exact (RowIs.new w _ _).keep (bAl (Below.refl _ _) _)
  have rQ : RowIs W (w.heap.size + 1) #[.string Q.t.f0, .string Q.t.f1, .slice Q.h2.a Q.h2.len Q.h2.cap, .slice Q.h3.a Q.h3.len Q.h3.cap] 45 := by rw [hW]; have := RowIs.new (w.alloc (.cells #[.string P.t.f0, .string P.t.f1, .slice P.h2.a P.h2.len P.h2.cap, .slice P.h3.a P.h3.len P.h3.cap] 45)) #[.string Q.t.f0, .string Q.t.f1, .slice Q.h2.a Q.h2.len Q.h2.cap, .slice Q.h3.a Q.h3.len Q.h3.cap] 45; simpa using this
  have HW := hide hW
  have x0 := rP.at (o := 0) (v := .string P.t.f0) rfl
  have y0 := rQ.at (o := 0) (v := .string Q.t.f0) rfl
  have qc := hide (fun w => stringsCompare_any P.t.f0 Q.t.f0 w)
  have BW := hide bW
  generalize cmpT P.t.f0.data.toList Q.t.f0.data.toList = cc at qc ⊢
  clear hW bW rP rQ
  go_enter Try.func36, Try.ntmps36
  go_wp2_with fail
  rw [← unhide HW]
  go_wp2_with (go_at_call 32; refine (unhide qc _).mono ?_; rintro e w' ⟨rfl, rfl⟩)
  go_ret
  exact ⟨rfl, unhide BW⟩
set_option maxRecDepth 20000 in
set_option maxHeartbeats 4000000 in
theorem rising_ay  (c : AttrTypeE → AttrTypeE → Int) (h : Hd) (l : List AttrTypeE) (w : World) (hl : l.length ≤ maxLen) (hs : SqAttrTypeE w 0 h l)
    (qq : ∀ x ∈ l, ∀ y ∈ l, ∀ w' : World, Below w.heap.size w w' → Calls Try.prog 31 #[.agg #[.string x.t.f0, .int .i64 x.t.f1, .bool x.t.f2], .agg #[.string y.t.f0, .int .i64 y.t.f1, .bool y.t.f2]] w' fun e w'' => e = .returned (.int .i64 (c x y)) ∧ Below w'.heap.size w' w'') :
    Calls Try.prog 33 #[.slice h.a h.len h.cap, .func (.func 31) #[] #[]] w fun e w' => RetB e (∀ i (h : i + 1 < l.length), c l[i] l[i + 1] < 0) ∧ Below w.heap.size w w' := by
  have HS := hide hs
  have HQ := hide qq
  have HL := hide hs.1
  have hlm : h.len ≤ maxLen := by rw [hs.1]; exact hl
  unfold maxLen at hlm
  obtain ⟨a, len, cap⟩ := h
  simp only at hlm HL
  clear hs qq hl
  go_enter Try.func33, Try.ntmps33
  go_wp2
  go_loopw [5] (fun i w' => ∃ k : Nat, 1 ≤ k ∧ (k ≤ len ∨ k = 1) ∧ i = .int .i64 k ∧ Hid (Below w.heap.size w w') ∧ Hid (∀ i (h : i + 1 < l.length), i + 1 < k → c l[i] l[i + 1] < 0)) (fun i _ => len - (Go.RowKit.intOf i).toNat)
  case atStart => exact ⟨1, Nat.le_refl _, .inr rfl, rfl, hide (Below.refl _ _), hide (fun i _ h => absurd h (by omega))⟩
  case round =>
    obtain ⟨k, hk1, hk, rfl, hb, hris⟩ := hrel
    by_cases hlt : k < len
    · obtain ⟨j, rfl⟩ : ∃ j, k = j + 1 := ⟨k - 1, by omega⟩
      have hk' : j + 1 < l.length := by have := unhide HL; omega
      have hj : j < l.length := by omega
      obtain ⟨bb_, off, e0, hrow⟩ := ((unhide HS).keep (unhide hb)).at hlt
      simp only at e0
      subst e0
      have p0 := hrow.c0 (j + 1) hk'
      have p1 := hrow.c1 (j + 1) hk'
      have p2 := hrow.c2 (j + 1) hk'
      have o0 := hrow.c0 j hj
      have o1 := hrow.c1 j hj
      have o2 := hrow.c2 j hj
      have zk := hrow.z
      have qc := hide (fun (q : Kept wr) => unhide HQ l[j] (List.getElem_mem hj) l[j + 1] (List.getElem_mem hk') q.w (bTr (unhide hb) q.h))
      have stepR : Hid (c l[j] l[j + 1] < 0 → ∀ i (h : i + 1 < l.length), i + 1 < j + 1 + 1 → c l[i] l[i + 1] < 0) := hide (fun g i hi h1 => by
        rcases Nat.lt_or_ge i j with h2 | h2
        · exact unhide hris i hi (by omega)
        · obtain rfl : i = j := by omega
          exact g)
      have noR : Hid (¬ c l[j] l[j + 1] < 0 → ¬ ∀ i (h : i + 1 < l.length), c l[i] l[i + 1] < 0) := hide (fun g h => g (h j hk'))
      clear hrow hris
      generalize c l[j] l[j + 1] = cc at qc stepR noR
      generalize l[j + 1] = P at p0 p1 p2 qc
      generalize l[j] = Q at o0 o1 o2 qc
      have ne : Nonempty (Kept wr) := ⟨⟨wr, Below.refl _ _⟩⟩
      have x0 := kept_cell zk p0
      have y0 := kept_cell zk o0
      have x1 := kept_cell zk p1
      have y1 := kept_cell zk o1
      have x2 := kept_cell zk p2
      have y2 := kept_cell zk o2
      have ej : IntKind.i64.wrap ((j : Int) + 1 - 1) = (j : Int) := by rw [IntKind.wrap_i64]; omega
      have i0 : (0 : Int) ≤ (j : Int) := by omega
      have i1 : (j : Int) < (len : Int) := by omega
      have i2 : (j : Int) + 1 < (len : Int) := by omega
      clear p0 o0 p1 o1 p2 o2 zk
      by_cases hc : cc < 0
      · have dc : decide (0 ≤ cc) = false := by simp; omega
        replace stepR := hide (unhide stepR hc)
        clear hc noR
        go_wp2_with fail
        refine wp_region_kept (by kernel_rfl) (by kernel_rfl) ?_
        repeat (first
          | go_big_quiet_step ((go_at_call 31; exact kept_call (unhide qc _)))
          | quiet_step ((go_at_call 31; exact kept_call (unhide qc _))))
        refine wpQuiet_nil ?_
        rintro _ ⟨q, rfl⟩
        go_wp2_with fail
        exact ⟨⟨j + 1 + 1, by omega, by omega, by go_num, hide (bTr (unhide hb) q.h), stepR⟩, by simp [Go.RowKit.intOf]; omega⟩
      · have dc : decide (0 ≤ cc) = true := by simp; omega
        replace noR := hide (unhide noR hc)
        clear hc stepR
        go_wp2_with fail
        refine wp_region_kept (by kernel_rfl) (by kernel_rfl) ?_
        repeat (first
          | go_big_quiet_step ((go_at_call 31; exact kept_call (unhide qc _)))
          | quiet_step ((go_at_call 31; exact kept_call (unhide qc _))))
        refine wpQuiet_nil ?_
        rintro _ ⟨q, rfl⟩
        go_wp2_with fail
        go_ret
        exact ⟨retB (b := false) ⟨fun h => (by cases h), fun h => absurd h (unhide noR)⟩, bTr (unhide hb) q.h⟩
    · have hR : Hid (∀ i (h : i + 1 < l.length), c l[i] l[i + 1] < 0) := hide (fun i h => unhide hris i h (by have := unhide HL; omega))
      clear hris
      go_wp2_with fail
      go_ret
      exact ⟨retB (b := true) ⟨fun _ => unhide hR, fun _ => rfl⟩, unhide hb⟩
set_option maxRecDepth 20000 in
set_option maxHeartbeats 4000000 in
theorem rising_cl  (c : ClassE → ClassE → Int) (h : Hd) (l : List ClassE) (w : World) (hl : l.length ≤ maxLen) (hs : SqClassE w 0 h l)
    (qq : ∀ x ∈ l, ∀ y ∈ l, ∀ w' : World, Below w.heap.size w w' → Calls Try.prog 36 #[.agg #[.string x.t.f0, .string x.t.f1, .slice x.h2.a x.h2.len x.h2.cap, .slice x.h3.a x.h3.len x.h3.cap], .agg #[.string y.t.f0, .string y.t.f1, .slice y.h2.a y.h2.len y.h2.cap, .slice y.h3.a y.h3.len y.h3.cap]] w' fun e w'' => e = .returned (.int .i64 (c x y)) ∧ Below w'.heap.size w' w'') :
    Calls Try.prog 35 #[.slice h.a h.len h.cap, .func (.func 36) #[] #[]] w fun e w' => RetB e (∀ i (h : i + 1 < l.length), c l[i] l[i + 1] < 0) ∧ Below w.heap.size w w' := by
  have HS := hide hs
  have HQ := hide qq
  have HL := hide hs.1
  have hlm : h.len ≤ maxLen := by rw [hs.1]; exact hl
  unfold maxLen at hlm
  obtain ⟨a, len, cap⟩ := h
  simp only at hlm HL
  clear hs qq hl
  go_enter Try.func35, Try.ntmps35
  go_wp2
  go_loopw [5] (fun i w' => ∃ k : Nat, 1 ≤ k ∧ (k ≤ len ∨ k = 1) ∧ i = .int .i64 k ∧ Hid (Below w.heap.size w w') ∧ Hid (∀ i (h : i + 1 < l.length), i + 1 < k → c l[i] l[i + 1] < 0)) (fun i _ => len - (Go.RowKit.intOf i).toNat)
  case atStart => exact ⟨1, Nat.le_refl _, .inr rfl, rfl, hide (Below.refl _ _), hide (fun i _ h => absurd h (by omega))⟩
  case round =>
    obtain ⟨k, hk1, hk, rfl, hb, hris⟩ := hrel
    by_cases hlt : k < len
    · obtain ⟨j, rfl⟩ : ∃ j, k = j + 1 := ⟨k - 1, by omega⟩
      have hk' : j + 1 < l.length := by have := unhide HL; omega
      have hj : j < l.length := by omega
      obtain ⟨bb_, off, e0, hrow⟩ := ((unhide HS).keep (unhide hb)).at hlt
      simp only at e0
      subst e0
      have p0 := hrow.c0 (j + 1) hk'
      have p1 := hrow.c1 (j + 1) hk'
      have p2 := hrow.c2 (j + 1) hk'
      have p3 := hrow.c3 (j + 1) hk'
      have o0 := hrow.c0 j hj
      have o1 := hrow.c1 j hj
      have o2 := hrow.c2 j hj
      have o3 := hrow.c3 j hj
      have zk := hrow.z
      have qc := hide (fun (q : Kept wr) => unhide HQ l[j] (List.getElem_mem hj) l[j + 1] (List.getElem_mem hk') q.w (bTr (unhide hb) q.h))
      have stepR : Hid (c l[j] l[j + 1] < 0 → ∀ i (h : i + 1 < l.length), i + 1 < j + 1 + 1 → c l[i] l[i + 1] < 0) := hide (fun g i hi h1 => by
        rcases Nat.lt_or_ge i j with h2 | h2
        · exact unhide hris i hi (by omega)
        · obtain rfl : i = j := by omega
          exact g)
      have noR : Hid (¬ c l[j] l[j + 1] < 0 → ¬ ∀ i (h : i + 1 < l.length), c l[i] l[i + 1] < 0) := hide (fun g h => g (h j hk'))
      clear hrow hris
      generalize c l[j] l[j + 1] = cc at qc stepR noR
      generalize l[j + 1] = P at p0 p1 p2 p3 qc
      generalize l[j] = Q at o0 o1 o2 o3 qc
      have ne : Nonempty (Kept wr) := ⟨⟨wr, Below.refl _ _⟩⟩
      have x0 := kept_cell zk p0
      have y0 := kept_cell zk o0
      have x1 := kept_cell zk p1
      have y1 := kept_cell zk o1
      have x2 := kept_cell zk p2
      have y2 := kept_cell zk o2
      have x3 := kept_cell zk p3
      have y3 := kept_cell zk o3
      have ej : IntKind.i64.wrap ((j : Int) + 1 - 1) = (j : Int) := by rw [IntKind.wrap_i64]; omega
      have i0 : (0 : Int) ≤ (j : Int) := by omega
      have i1 : (j : Int) < (len : Int) := by omega
      have i2 : (j : Int) + 1 < (len : Int) := by omega
      clear p0 o0 p1 o1 p2 o2 p3 o3 zk
      by_cases hc : cc < 0
      · have dc : decide (0 ≤ cc) = false := by simp; omega
        replace stepR := hide (unhide stepR hc)
        clear hc noR
        go_wp2_with fail
        refine wp_region_kept (by kernel_rfl) (by kernel_rfl) ?_
        repeat (first
          | go_big_quiet_step ((go_at_call 36; exact kept_call (unhide qc _)))
          | quiet_step ((go_at_call 36; exact kept_call (unhide qc _))))
        refine wpQuiet_nil ?_
        rintro _ ⟨q, rfl⟩
        go_wp2_with fail
        exact ⟨⟨j + 1 + 1, by omega, by omega, by go_num, hide (bTr (unhide hb) q.h), stepR⟩, by simp [Go.RowKit.intOf]; omega⟩
      · have dc : decide (0 ≤ cc) = true := by simp; omega
        replace noR := hide (unhide noR hc)
        clear hc stepR
        go_wp2_with fail
        refine wp_region_kept (by kernel_rfl) (by kernel_rfl) ?_
        repeat (first
          | go_big_quiet_step ((go_at_call 36; exact kept_call (unhide qc _)))
          | quiet_step ((go_at_call 36; exact kept_call (unhide qc _))))
        refine wpQuiet_nil ?_
        rintro _ ⟨q, rfl⟩
        go_wp2_with fail
        go_ret
        exact ⟨retB (b := false) ⟨fun h => (by cases h), fun h => absurd h (unhide noR)⟩, bTr (unhide hb) q.h⟩
    · have hR : Hid (∀ i (h : i + 1 < l.length), c l[i] l[i + 1] < 0) := hide (fun i h => unhide hris i h (by have := unhide HL; omega))
      clear hris
      go_wp2_with fail
      go_ret
      exact ⟨retB (b := true) ⟨fun _ => unhide hR, fun _ => rfl⟩, unhide hb⟩
set_option maxRecDepth 20000 in
set_option maxHeartbeats 4000000 in
theorem rising_st  (c : ByteArray → ByteArray → Int) (h : Hd) (l : List ByteArray) (w : World) (hl : l.length ≤ maxLen) (hs : SqS w 0 h l)
    (qq : ∀ x ∈ l, ∀ y ∈ l, ∀ w' : World, Below w.heap.size w w' → Calls Try.prog 32 #[.string x, .string y] w' fun e w'' => e = .returned (.int .i64 (c x y)) ∧ Below w'.heap.size w' w'') :
    Calls Try.prog 49 #[.slice h.a h.len h.cap, .func (.func 32) #[] #[]] w fun e w' => RetB e (∀ i (h : i + 1 < l.length), c l[i] l[i + 1] < 0) ∧ Below w.heap.size w w' := by
  have HS := hide hs
  have HQ := hide qq
  have HL := hide hs.1
  have hlm : h.len ≤ maxLen := by rw [hs.1]; exact hl
  unfold maxLen at hlm
  obtain ⟨a, len, cap⟩ := h
  simp only at hlm HL
  clear hs qq hl
  go_enter Try.func49, Try.ntmps49
  go_wp2
  go_loopw [5] (fun i w' => ∃ k : Nat, 1 ≤ k ∧ (k ≤ len ∨ k = 1) ∧ i = .int .i64 k ∧ Hid (Below w.heap.size w w') ∧ Hid (∀ i (h : i + 1 < l.length), i + 1 < k → c l[i] l[i + 1] < 0)) (fun i _ => len - (Go.RowKit.intOf i).toNat)
  case atStart => exact ⟨1, Nat.le_refl _, .inr rfl, rfl, hide (Below.refl _ _), hide (fun i _ h => absurd h (by omega))⟩
  case round =>
    obtain ⟨k, hk1, hk, rfl, hb, hris⟩ := hrel
    by_cases hlt : k < len
    · obtain ⟨j, rfl⟩ : ∃ j, k = j + 1 := ⟨k - 1, by omega⟩
      have hk' : j + 1 < l.length := by have := unhide HL; omega
      have hj : j < l.length := by omega
      obtain ⟨bb_, off, e0, hrow⟩ := ((unhide HS).keep (unhide hb)).sl.at hlt
      simp only at e0
      subst e0
      have p0 := hrow.c (j + 1) hk'
      have o0 := hrow.c j hj
      have zk := hrow.z
      have qc := hide (fun (q : Kept wr) => unhide HQ l[j] (List.getElem_mem hj) l[j + 1] (List.getElem_mem hk') q.w (bTr (unhide hb) q.h))
      have stepR : Hid (c l[j] l[j + 1] < 0 → ∀ i (h : i + 1 < l.length), i + 1 < j + 1 + 1 → c l[i] l[i + 1] < 0) := hide (fun g i hi h1 => by
        rcases Nat.lt_or_ge i j with h2 | h2
        · exact unhide hris i hi (by omega)
        · obtain rfl : i = j := by omega
          exact g)
      have noR : Hid (¬ c l[j] l[j + 1] < 0 → ¬ ∀ i (h : i + 1 < l.length), c l[i] l[i + 1] < 0) := hide (fun g h => g (h j hk'))
      clear hrow hris
      generalize c l[j] l[j + 1] = cc at qc stepR noR
      generalize l[j + 1] = P at p0 qc
      generalize l[j] = Q at o0 qc
      have ne : Nonempty (Kept wr) := ⟨⟨wr, Below.refl _ _⟩⟩
      have x0 := kept_cell zk p0
      have y0 := kept_cell zk o0
      have ej : IntKind.i64.wrap ((j : Int) + 1 - 1) = (j : Int) := by rw [IntKind.wrap_i64]; omega
      have i0 : (0 : Int) ≤ (j : Int) := by omega
      have i1 : (j : Int) < (len : Int) := by omega
      have i2 : (j : Int) + 1 < (len : Int) := by omega
      clear p0 o0 zk
      by_cases hc : cc < 0
      · have dc : decide (0 ≤ cc) = false := by simp; omega
        replace stepR := hide (unhide stepR hc)
        clear hc noR
        go_wp2_with fail
        refine wp_region_kept (by kernel_rfl) (by kernel_rfl) ?_
        repeat (first
          | go_big_quiet_step ((go_at_call 32; exact kept_call (unhide qc _)))
          | quiet_step ((go_at_call 32; exact kept_call (unhide qc _))))
        refine wpQuiet_nil ?_
        rintro _ ⟨q, rfl⟩
        go_wp2_with fail
        exact ⟨⟨j + 1 + 1, by omega, by omega, by go_num, hide (bTr (unhide hb) q.h), stepR⟩, by simp [Go.RowKit.intOf]; omega⟩
      · have dc : decide (0 ≤ cc) = true := by simp; omega
        replace noR := hide (unhide noR hc)
        clear hc stepR
        go_wp2_with fail
        refine wp_region_kept (by kernel_rfl) (by kernel_rfl) ?_
        repeat (first
          | go_big_quiet_step ((go_at_call 32; exact kept_call (unhide qc _)))
          | quiet_step ((go_at_call 32; exact kept_call (unhide qc _))))
        refine wpQuiet_nil ?_
        rintro _ ⟨q, rfl⟩
        go_wp2_with fail
        go_ret
        exact ⟨retB (b := false) ⟨fun h => (by cases h), fun h => absurd h (unhide noR)⟩, bTr (unhide hb) q.h⟩
    · have hR : Hid (∀ i (h : i + 1 < l.length), c l[i] l[i + 1] < 0) := hide (fun i h => unhide hris i h (by have := unhide HL; omega))
      clear hris
      go_wp2_with fail
      go_ret
      exact ⟨retB (b := true) ⟨fun _ => unhide hR, fun _ => rfl⟩, unhide hb⟩
end Go.Proofs.Ytobmdeoppbjjpaa.V
