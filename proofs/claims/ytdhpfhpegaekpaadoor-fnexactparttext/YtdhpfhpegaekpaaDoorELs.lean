/- Documents: what is right of an element, by the specification. -/
import Derived.Test.YtdhpfhpegaekpaaDoorELh
namespace Go.Proofs.YtdhpfhpegaekpaaDoor.V
set_option linter.unusedSimpArgs false
set_option linter.unusedVariables false
set_option maxRecDepth 20000
open Go.RowKit

set_option maxHeartbeats 8000000 in
theorem sRight_any (x : ElemE) (w : World) (hn : ElemN x.t) (hm : ElemM w 0 x) :
    Calls Tryd.prog 23 #[.agg #[.string x.t.f0, .string x.t.f1, .slice x.h2.a x.h2.len x.h2.cap, .slice x.h3.a x.h3.len x.h3.cap, .int .i64 x.t.f4]] w fun e w' => RetB e (RightE x.t) ∧ Below w.heap.size w w' := by
  obtain ⟨W1, hW1⟩ : ∃ W, W = w.alloc (.cells #[.string x.t.f0, .string x.t.f1, .slice x.h2.a x.h2.len x.h2.cap, .slice x.h3.a x.h3.len x.h3.cap, .int .i64 x.t.f4] 35) := ⟨_, rfl⟩
  have b1 : Below w.heap.size w W1 := by rw [hW1]; exact bAl (Below.refl _ _) _
  have R1 := hide (show RowIs W1 w.heap.size #[.string x.t.f0, .string x.t.f1, .slice x.h2.a x.h2.len x.h2.cap, .slice x.h3.a x.h3.len x.h3.cap, .int .i64 x.t.f4] 35 by rw [hW1]; exact RowIs.new _ _ _)
  have HW1 := hide hW1.symm
  have B1 := hide b1
  have M1 := hide (hm.keep b1)
  have q1 := hide (fun w => sGoodName_any x.t.f0 hn.o0 w)
  have q3 := hide (fun (w' : World) (hb : Below w.heap.size w w') => l3Rising_n x.h2 x.t.f2 w' hn.l2 hn.o2 (hm.m2.keep hb))
  have q4 := hide (fun w => l1Printed_any x.t.f1 hn.o1 w)
  have N2 := hide hn.o2
  have N3 := hide hn.o3
  have L2 := hide hm.m2.1
  have L3 := hide hm.m3.1
  have lm2 := hn.l2
  rw [← hm.m2.1] at lm2
  have f1m := hn.o1
  unfold maxLen at lm2 f1m
  have fin := hide (show RightE x.t ↔ (GNm x.t.f0 ∧ ¬ 8 < x.h2.len ∧ x.h3.len = x.h2.len ∧ RisE x.t.f2 ∧ ¬ 200 < x.t.f1.size ∧ textL x.t.f1 = true ∧ (x.t.f1 = ⟨#[]⟩ ∨ ¬ 0 < x.t.f4) ∧ ∀ j (h2 : j < x.t.f2.length) (h3 : j < x.t.f3.length), GNm x.t.f2[j] ∧ GTx x.t.f3[j]) from by
    have h2 := hm.m2.1
    have h3 := hm.m3.1
    constructor
    · rintro ⟨a, b, c, d, e, f, g, h⟩
      have g' : x.t.f1.size ≤ 200 ∧ textL x.t.f1 = true := by simpa [GTx] using g
      exact ⟨a, by omega, by omega, d, by omega, g'.2, h.imp_right (fun h => by omega), fun j k2 k3 => ⟨c _ (List.getElem_mem k2), f _ (List.getElem_mem k3)⟩⟩
    · rintro ⟨a, b, c, d, e, f, g, h⟩
      refine ⟨a, by omega, fun q hq => ?_, d, by omega, fun q hq => ?_, by simp [GTx, f]; omega, g.imp_right (fun h => by omega)⟩
      · obtain ⟨j, hj, rfl⟩ := List.mem_iff_getElem.1 hq
        exact (h j hj (by omega)).1
      · obtain ⟨j, hj, rfl⟩ := List.mem_iff_getElem.1 hq
        exact (h j (by omega) hj).2)
  clear hn hm hW1 b1
  obtain ⟨⟨t0, t1, t2, t3, t4⟩, ⟨a2, n2, c2⟩, ⟨a3, n3, c3⟩⟩ := x
  simp only at *
  go_enter Tryd.func23, Tryd.ntmps23
  go_upto_region 1 with fail
  refine wp_worldD (unhide HW1) ?_
  clear HW1
  have e0 := (unhide R1).at (o := 0) (v := .string t0) rfl
  have e1 := (unhide R1).at (o := 1) (v := .string t1) rfl
  have e2 := (unhide R1).at (o := 2) (v := .slice a2 n2 c2) rfl
  have e3 := (unhide R1).at (o := 3) (v := .slice a3 n3 c3) rfl
  have e4 := (unhide R1).at (o := 4) (v := .int .i64 t4) rfl
  have ez := (unhide R1).lt
  go_wp2_with fail
  refine (unhide q1 _).mono ?_
  rintro e w2 ⟨rfl, rfl⟩
  cases d1 : goodName t0 with
  | false =>
    have D1 := hide d1
    clear d1
    go_wp2_with fail
    go_ret
    exact ⟨retB (b := false) ⟨fun h => (by cases h), fun h => (by obtain ⟨f1, f2, f3, f4, f5, f6, f7, f8⟩ := (unhide fin).1 h; have := unhide D1; unfold GNm at f1; rw [this] at f1; cases f1)⟩, unhide B1⟩
  | true =>
  have D1 := hide d1
  clear d1
  by_cases h8 : 8 < n2
  · have d2 : 8 < (n2 : Int) := by omega
    go_wp2_with fail
    go_ret
    exact ⟨retB (b := false) ⟨fun h => (by cases h), fun h => (by obtain ⟨f1, f2, f3, f4, f5, f6, f7, f8⟩ := (unhide fin).1 h; exact absurd h8 f2)⟩, unhide B1⟩
  have d2 : ¬ 8 < (n2 : Int) := by omega
  by_cases hL : n3 = n2
  rotate_left
  · have d3 : ((n3 : Int) != (n2 : Int)) = true := by simp; omega
    go_wp2_with fail
    go_ret
    exact ⟨retB (b := false) ⟨fun h => (by cases h), fun h => (by obtain ⟨f1, f2, f3, f4, f5, f6, f7, f8⟩ := (unhide fin).1 h; exact absurd f3 hL)⟩, unhide B1⟩
  have d3 : ((n3 : Int) != (n2 : Int)) = false := by simp [hL]
  have HL3 := hide hL
  clear hL
  have Q3 := hide (unhide q3 _ (unhide B1))
  go_wp2_with fail
  refine (unhide Q3).mono ?_
  rintro e w3 ⟨⟨b, rfl, hb⟩, bb⟩
  have F4 := hide hb
  have B3 := hide (bTr (unhide B1) bb)
  have R3 := hide ((unhide R1).keep bb)
  have M3 := hide ((unhide M1).keep bb)
  clear e0 e1 e2 e3 e4 ez
  clear hb bb Q3 q3 R1 B1 M1
  have e0 := (unhide R3).at (o := 0) (v := .string t0) rfl
  have e1 := (unhide R3).at (o := 1) (v := .string t1) rfl
  have e2 := (unhide R3).at (o := 2) (v := .slice a2 n2 c2) rfl
  have e3 := (unhide R3).at (o := 3) (v := .slice a3 n3 c3) rfl
  have e4 := (unhide R3).at (o := 4) (v := .int .i64 t4) rfl
  have ez := (unhide R3).lt
  cases b with
  | false =>
    go_wp2_with fail
    go_ret
    exact ⟨retB (b := false) ⟨fun h => (by cases h), fun h => (by obtain ⟨f1, f2, f3, f4, f5, f6, f7, f8⟩ := (unhide fin).1 h; have := (unhide F4).2 f4; cases this)⟩, unhide B3⟩
  | true =>
  by_cases h200 : 200 < t1.size
  · have d4 : 200 < (t1.size : Int) := by omega
    go_wp2_with fail
    go_ret
    exact ⟨retB (b := false) ⟨fun h => (by cases h), fun h => (by obtain ⟨f1, f2, f3, f4, f5, f6, f7, f8⟩ := (unhide fin).1 h; exact absurd h200 f5)⟩, unhide B3⟩
  have d4 : ¬ 200 < (t1.size : Int) := by omega
  go_wp2_with fail
  refine (unhide q4 _).mono ?_
  rintro e w4 ⟨rfl, rfl⟩
  cases d5 : textL t1 with
  | false =>
    have D5 := hide d5
    clear d5
    go_wp2_with fail
    go_ret
    exact ⟨retB (b := false) ⟨fun h => (by cases h), fun h => (by obtain ⟨f1, f2, f3, f4, f5, f6, f7, f8⟩ := (unhide fin).1 h; have := unhide D5; rw [this] at f6; cases f6)⟩, unhide B3⟩
  | true =>
  have D5 := hide d5
  clear d5
  by_cases hAK : ¬ t1 = ⟨#[]⟩ ∧ 0 < t4
  · have d6 : (ByteArray.toList t1).isEmpty = false := by simpa using str_neY hAK.1
    have d7 := hAK.2
    have HAK := hide hAK
    clear hAK
    go_wp2_with fail
    go_ret
    exact ⟨retB (b := false) ⟨fun h => (by cases h), fun h => (by obtain ⟨f1, f2, f3, f4, f5, f6, f7, f8⟩ := (unhide fin).1 h; exact absurd f7 (by rintro (h | h); exact (unhide HAK).1 h; have := (unhide HAK).2; omega))⟩, unhide B3⟩
  have HAK := hide (show t1 = ⟨#[]⟩ ∨ ¬ 0 < t4 from by
    by_cases h1 : t1 = ⟨#[]⟩
    · exact .inl h1
    · exact .inr (fun h2 => hAK ⟨h1, h2⟩))
  clear hAK
  by_cases hA : t1 = ⟨#[]⟩
  · have HA := hide hA
    have e1' := e1
    rw [hA] at e1
    clear hA e1'
    go_wp2_with fail
    go_loopw [3, 4, 55] (fun _ _ q w' => ∃ k : Nat, k ≤ n2 ∧ q = .int .i64 k ∧ w3 = w' ∧ Hid (∀ j (h2 : j < t2.length) (h3 : j < t3.length), j < k → GNm t2[j] ∧ GTx t3[j])) (fun _ _ q _ => n2 - (Go.RowKit.intOf q).toNat)
    case atStart => exact ⟨0, Nat.zero_le _, rfl, rfl, hide (fun j _ _ h => absurd h (Nat.not_lt_zero _))⟩
    case round =>
      obtain ⟨k, hk, rfl, rfl, hG⟩ := hrel
      by_cases hlt : k < n2
      · obtain ⟨b2, o2, rfl, r2⟩ := (unhide M3).m2.sl.at hlt
        obtain ⟨b3, o3, rfl, r3⟩ := (unhide M3).m3.sl.at (show k < n3 by rw [unhide HL3]; exact hlt)
        have k2 : k < t2.length := by rw [← unhide L2]; exact hlt
        have k3 : k < t3.length := by rw [← unhide L3, unhide HL3]; exact hlt
        have cn2 : w3.cell? ⟨b2, o2 + k, none⟩ = some (.string t2[k]) := r2.c k k2
        have cn3 : w3.cell? ⟨b3, o3 + k, none⟩ = some (.string t3[k]) := r3.c k k3
        have z2 := r2.z
        have z3 := r3.z
        have y2 := unhide N2 _ (List.getElem_mem k2)
        have y3 := unhide N3 _ (List.getElem_mem k3)
        have qa := hide (fun w => sGoodName_any t2[k] y2 w)
        have qb := hide (fun w => l1Printed_any t3[k] y3 w)
        have GN := hide (show ∀ (h : GNm t2[k] ∧ GTx t3[k]), ∀ j (h2 : j < t2.length) (h3 : j < t3.length), j < k + 1 → GNm t2[j] ∧ GTx t3[j] from fun h j j2 j3 hj => by
          by_cases e : j = k
          · subst e; exact h
          · exact unhide hG j j2 j3 (by omega))
        have BAD := hide (show ¬ (GNm t2[k] ∧ GTx t3[k]) → ¬ RightE ⟨t0, t1, t2, t3, t4⟩ from fun h g => h (((unhide fin).1 g).2.2.2.2.2.2.2 k k2 k3))
        unfold maxLen at y3
        have hk3 : k < n3 := by rw [unhide HL3]; exact hlt
        clear r2 r3
        obtain ⟨A, hA⟩ : ∃ A, t2[k] = A := ⟨_, rfl⟩
        obtain ⟨V, hV⟩ : ∃ V, t3[k] = V := ⟨_, rfl⟩
        rw [hA] at cn2 qa GN BAD
        rw [hV] at cn3 qb GN BAD y3
        clear hA hV
        go_wp2_with fail
        refine (unhide qa _).mono ?_
        rintro e w5 ⟨rfl, rfl⟩
        cases dA : goodName A with
        | false =>
          have no := hide (unhide BAD (fun h => by have := h.1; unfold GNm at this; rw [dA] at this; cases this))
          clear dA
          go_wp2_with fail
          go_ret
          exact ⟨retB (b := false) ⟨fun h => (by cases h), fun h => absurd h (unhide no)⟩, unhide B3⟩
        | true =>
          have DA := hide dA
          clear dA
          by_cases hV2 : 200 < V.size
          · have d9 : 200 < (V.size : Int) := by omega
            have no := hide (unhide BAD (fun h => by have := h.2; simp [GTx] at this; omega))
            go_wp2_with fail
            go_ret
            exact ⟨retB (b := false) ⟨fun h => (by cases h), fun h => absurd h (unhide no)⟩, unhide B3⟩
          · have d9 : ¬ 200 < (V.size : Int) := by omega
            go_wp2_with fail
            refine (unhide qb _).mono ?_
            rintro e w6 ⟨rfl, rfl⟩
            cases dV : textL V with
            | false =>
              have no := hide (unhide BAD (fun h => by have := h.2; simp [GTx, dV] at this))
              clear dV
              go_wp2_with fail
              go_ret
              exact ⟨retB (b := false) ⟨fun h => (by cases h), fun h => absurd h (unhide no)⟩, unhide B3⟩
            | true =>
              have hN := hide (unhide GN ⟨by unfold GNm; exact unhide DA, by simp [GTx, dV]; omega⟩)
              clear dV
              go_wp2_with fail
              exact ⟨⟨k + 1, by omega, by go_num, by trivial, hN⟩, by simp [Go.RowKit.intOf]; omega⟩
      · have yes := hide ((unhide fin).2 ⟨by unfold GNm; exact unhide D1, h8, unhide HL3, (unhide F4).1 (by trivial), h200, unhide D5, unhide HAK, fun j j2 j3 => unhide hG j j2 j3 (by have := unhide L2; omega)⟩)
        go_wp2_with fail
        go_ret
        exact ⟨retB (b := true) ⟨fun _ => unhide yes, fun _ => rfl⟩, unhide B3⟩
  · have d6 : (ByteArray.toList t1).isEmpty = false := by simpa using str_neY hA
    have d7 : ¬ 0 < t4 := (unhide HAK).resolve_left hA
    go_wp2_with fail
    go_loopw [3, 4, 55] (fun _ _ q w' => ∃ k : Nat, k ≤ n2 ∧ q = .int .i64 k ∧ w3 = w' ∧ Hid (∀ j (h2 : j < t2.length) (h3 : j < t3.length), j < k → GNm t2[j] ∧ GTx t3[j])) (fun _ _ q _ => n2 - (Go.RowKit.intOf q).toNat)
    case atStart => exact ⟨0, Nat.zero_le _, rfl, rfl, hide (fun j _ _ h => absurd h (Nat.not_lt_zero _))⟩
    case round =>
      obtain ⟨k, hk, rfl, rfl, hG⟩ := hrel
      by_cases hlt : k < n2
      · obtain ⟨b2, o2, rfl, r2⟩ := (unhide M3).m2.sl.at hlt
        obtain ⟨b3, o3, rfl, r3⟩ := (unhide M3).m3.sl.at (show k < n3 by rw [unhide HL3]; exact hlt)
        have k2 : k < t2.length := by rw [← unhide L2]; exact hlt
        have k3 : k < t3.length := by rw [← unhide L3, unhide HL3]; exact hlt
        have cn2 : w3.cell? ⟨b2, o2 + k, none⟩ = some (.string t2[k]) := r2.c k k2
        have cn3 : w3.cell? ⟨b3, o3 + k, none⟩ = some (.string t3[k]) := r3.c k k3
        have z2 := r2.z
        have z3 := r3.z
        have y2 := unhide N2 _ (List.getElem_mem k2)
        have y3 := unhide N3 _ (List.getElem_mem k3)
        have qa := hide (fun w => sGoodName_any t2[k] y2 w)
        have qb := hide (fun w => l1Printed_any t3[k] y3 w)
        have GN := hide (show ∀ (h : GNm t2[k] ∧ GTx t3[k]), ∀ j (h2 : j < t2.length) (h3 : j < t3.length), j < k + 1 → GNm t2[j] ∧ GTx t3[j] from fun h j j2 j3 hj => by
          by_cases e : j = k
          · subst e; exact h
          · exact unhide hG j j2 j3 (by omega))
        have BAD := hide (show ¬ (GNm t2[k] ∧ GTx t3[k]) → ¬ RightE ⟨t0, t1, t2, t3, t4⟩ from fun h g => h (((unhide fin).1 g).2.2.2.2.2.2.2 k k2 k3))
        unfold maxLen at y3
        have hk3 : k < n3 := by rw [unhide HL3]; exact hlt
        clear r2 r3
        obtain ⟨A, hA⟩ : ∃ A, t2[k] = A := ⟨_, rfl⟩
        obtain ⟨V, hV⟩ : ∃ V, t3[k] = V := ⟨_, rfl⟩
        rw [hA] at cn2 qa GN BAD
        rw [hV] at cn3 qb GN BAD y3
        clear hA hV
        go_wp2_with fail
        refine (unhide qa _).mono ?_
        rintro e w5 ⟨rfl, rfl⟩
        cases dA : goodName A with
        | false =>
          have no := hide (unhide BAD (fun h => by have := h.1; unfold GNm at this; rw [dA] at this; cases this))
          clear dA
          go_wp2_with fail
          go_ret
          exact ⟨retB (b := false) ⟨fun h => (by cases h), fun h => absurd h (unhide no)⟩, unhide B3⟩
        | true =>
          have DA := hide dA
          clear dA
          by_cases hV2 : 200 < V.size
          · have d9 : 200 < (V.size : Int) := by omega
            have no := hide (unhide BAD (fun h => by have := h.2; simp [GTx] at this; omega))
            go_wp2_with fail
            go_ret
            exact ⟨retB (b := false) ⟨fun h => (by cases h), fun h => absurd h (unhide no)⟩, unhide B3⟩
          · have d9 : ¬ 200 < (V.size : Int) := by omega
            go_wp2_with fail
            refine (unhide qb _).mono ?_
            rintro e w6 ⟨rfl, rfl⟩
            cases dV : textL V with
            | false =>
              have no := hide (unhide BAD (fun h => by have := h.2; simp [GTx, dV] at this))
              clear dV
              go_wp2_with fail
              go_ret
              exact ⟨retB (b := false) ⟨fun h => (by cases h), fun h => absurd h (unhide no)⟩, unhide B3⟩
            | true =>
              have hN := hide (unhide GN ⟨by unfold GNm; exact unhide DA, by simp [GTx, dV]; omega⟩)
              clear dV
              go_wp2_with fail
              exact ⟨⟨k + 1, by omega, by go_num, by trivial, hN⟩, by simp [Go.RowKit.intOf]; omega⟩
      · have yes := hide ((unhide fin).2 ⟨by unfold GNm; exact unhide D1, h8, unhide HL3, (unhide F4).1 (by trivial), h200, unhide D5, unhide HAK, fun j j2 j3 => unhide hG j j2 j3 (by have := unhide L2; omega)⟩)
        go_wp2_with fail
        go_ret
        exact ⟨retB (b := true) ⟨fun _ => unhide yes, fun _ => rfl⟩, unhide B3⟩
end Go.Proofs.YtdhpfhpegaekpaaDoor.V
