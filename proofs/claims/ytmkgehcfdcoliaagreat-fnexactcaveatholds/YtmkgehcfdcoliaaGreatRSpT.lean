/- spec.l6GoodTerm. -/
import Derived.Test.YtmkgehcfdcoliaaGreatRSpP
namespace Go.Proofs.YtmkgehcfdcoliaaGreat.V
open Go.RowKit

abbrev tAgg (t : CavTermT) : Value := .agg #[.string t.f0, .int .i64 t.f1, .string t.f2, .int .i64 t.f3, .int .i64 t.f4, .string t.f5, .string t.f6]

theorem isEmp : empB.toList.isEmpty = true := by rw [ByteArray.toList_eq]; rfl
theorem notEmp {a : ByteArray} (h : ¬ a = empB) : a.toList.isEmpty = false := by
  cases e : a.toList.isEmpty
  · rfl
  · exact absurd (strEq_iff.1 (by rw [List.isEmpty_iff.1 e, ByteArray.toList_eq]; rfl)) h

set_option maxHeartbeats 1000000 in
theorem l6GoodTerm_any (t : CavTermT) (a : Option Addr) (len cap : Nat) (l : List ParamT) (w : World) (ht : t.Ok) (hl : len ≤ 1048576) (hs : SlParam w a len l) :
    Calls Tryz.prog 38 #[tAgg t, .slice a len cap] w fun e w' => RetB e (GTerm l t) ∧ Below w.heap.size w w' := by
  have HS := hide hs
  have q1 := hide (fun s w hs => l6Param_any a len cap l s w hl hs)
  have q2 := hide (fun w => sGoodAtom_any t.f3 t.f4 t.f5 t.f6 w ht.n9 ht.o5 ht.o6)
  have R0 := hide (RowIs.new w #[.string t.f0, .int .i64 t.f1, .string t.f2, .int .i64 t.f3, .int .i64 t.f4, .string t.f5, .string t.f6] 81)
  have B0 := hide (bAl (Below.refl w.heap.size w) (.cells #[.string t.f0, .int .i64 t.f1, .string t.f2, .int .i64 t.f3, .int .i64 t.f4, .string t.f5, .string t.f6] 81))
  clear hs
  go_enter Tryz.func38, Tryz.ntmps38
  go_wp2_with fail
  refine (unhide q1 _ _ ((unhide HS).keep (unhide B0))).mono ?_
  rintro e w1 ⟨rfl, hb1⟩
  have R1 := hide ((unhide R0).keep hb1)
  have B1 := hide (bTr (unhide B0) hb1)
  clear hb1 R0 B0
  have r0 := (unhide R1).at (o := 0) (v := .string t.f0) rfl
  have r1 := (unhide R1).at (o := 1) (v := .int .i64 t.f1) rfl
  have r2 := (unhide R1).at (o := 2) (v := .string t.f2) rfl
  have r3 := (unhide R1).at (o := 3) (v := .int .i64 t.f3) rfl
  have r4 := (unhide R1).at (o := 4) (v := .int .i64 t.f4) rfl
  have r5 := (unhide R1).at (o := 5) (v := .string t.f5) rfl
  have r6 := (unhide R1).at (o := 6) (v := .string t.f6) rfl
  have zr := (unhide R1).lt
  cases hf : findP l t.f0 with
  | none =>
    have NO : Hid (¬ GTerm l t) := hide (fun ⟨p, h1, _⟩ => by rw [hf] at h1; cases h1)
    simp only [parV, Option.isSome]
    clear hf
    go_wp2_with fail
    go_ret
    exact ⟨retB (b := false) ⟨fun h => (by cases h), fun h => absurd h (unhide NO)⟩, bAl (unhide B1) _⟩
  | some P =>
    simp only [parV, Option.isSome]
    have HF := hide hf
    clear hf
    obtain ⟨W2, hW2⟩ : ∃ W, W = w1.alloc (.cells #[.string P.f0, .int .i64 P.f1] 78) := ⟨_, rfl⟩
    have b2 : Below w1.heap.size w1 W2 := by rw [hW2]; exact bAl (Below.refl _ _) _
    have R2 := hide (show RowIs W2 w1.heap.size #[.string P.f0, .int .i64 P.f1] 78 by rw [hW2]; exact RowIs.new _ _ _)
    have B2 := hide (bTr (unhide B1) b2)
    have T2 := hide ((unhide R1).keep b2)
    have HW2 := hide hW2.symm
    clear hW2 b2
    have GI := hide (fun K (h : rKind l t = K) => (⟨fun ⟨p, h1, h2, h3⟩ => by rw [unhide HF] at h1; cases h1; exact ⟨h.symm.trans h2, h3⟩, fun ⟨h1, h2⟩ => ⟨P, unhide HF, h.trans h1, h2⟩⟩ : GTerm l t ↔ (K = some P.f1 ∧ opOk t.f1 P.f1 = true)))
    by_cases he : t.f2 = empB
    · have d2 : t.f2.toList.isEmpty = true := by rw [he, ByteArray.toList_eq]; rfl
      have hr : rKind l t = if goodAtom t.f3 t.f4 t.f5 t.f6 = true then some t.f3 else none := by unfold rKind; rw [if_pos he]
      clear he q1
      generalize goodAtom t.f3 t.f4 t.f5 t.f6 = G at q2 hr
      go_wp2_with fail
      rw [unhide HW2]
      refine (unhide q2 _).mono ?_
      rintro e w3 ⟨rfl, hb3⟩
      replace B2 := hide (bTr (unhide B2) hb3)
      replace R2 := hide ((unhide R2).keep hb3)
      replace T2 := hide ((unhide T2).keep hb3)
      clear hb3 r0 r1 r2 r3 r4 r5 r6 zr R1 B1 HW2 q2 d2
      have r1 := (unhide T2).at (o := 1) (v := .int .i64 t.f1) rfl
      have p1 := (unhide R2).at (o := 1) (v := .int .i64 P.f1) rfl
      cases G
      · have NO := hide (unhide GI _ hr)
        clear GI hr
        go_wp2_with fail
        go_ret
        exact ⟨retB (b := false) ⟨fun h => (by cases h), fun h => by have := ((unhide NO).1 h).1; simp at this⟩, unhide B2⟩
      · have YES := hide (unhide GI _ (hr.trans (if_pos rfl)))
        clear GI hr
        generalize t.f3 = K at YES ⊢
        by_cases hk : K = P.f1
        · subst hk
          have Y2 : Hid (opOk t.f1 P.f1 = true ↔ GTerm l t) := hide ⟨fun h => (unhide YES).2 ⟨rfl, h⟩, fun h => ((unhide YES).1 h).2⟩
          clear YES
          generalize P.f1 = K at *
          generalize t.f1 = O at *
          rcases (by omega : O = 1 ∨ O = 2 ∨ O = 3 ∨ O = 4 ∨ (O ≠ 1 ∧ O ≠ 2 ∧ O ≠ 3 ∧ O ≠ 4)) with rfl | rfl | rfl | rfl | ⟨o1, o2, o3, o4⟩
          all_goals go_wp2_with fail
          all_goals go_ret
          all_goals refine ⟨retB (Iff.trans ?_ (unhide Y2)), unhide B2⟩
          all_goals (unfold opOk; first | (simp; done) | (simp [o1, o2, o3, o4]; done) | (simp; omega))
        · have dk : (K != P.f1) = true := by simpa using hk
          go_wp2_with fail
          go_ret
          exact ⟨retB (b := false) ⟨fun h => (by cases h), fun h => absurd (Option.some.inj ((unhide YES).1 h).1) hk⟩, unhide B2⟩
    · have d2 : t.f2.toList.isEmpty = false := by
        cases h : t.f2.toList.isEmpty
        · rfl
        · exact absurd (strEq_iff.1 (by rw [List.isEmpty_iff.1 h, ByteArray.toList_eq]; rfl)) he
      have hr : rKind l t = if zAtomT t then (findP l t.f2).map (·.f1) else none := by unfold rKind; rw [if_neg he]
      clear he q2
      go_wp2_with fail
      rw [unhide HW2]
      refine (unhide q1 _ _ ((unhide HS).keep (unhide B2))).mono ?_
      rintro e w3 ⟨rfl, hb3⟩
      replace B2 := hide (bTr (unhide B2) hb3)
      replace R2 := hide ((unhide R2).keep hb3)
      replace T2 := hide ((unhide T2).keep hb3)
      clear hb3 r0 r1 r2 r3 r4 r5 r6 zr R1 B1 HW2 q1 d2
      have r1 := (unhide T2).at (o := 1) (v := .int .i64 t.f1) rfl
      have r3 := (unhide T2).at (o := 3) (v := .int .i64 t.f3) rfl
      have r4 := (unhide T2).at (o := 4) (v := .int .i64 t.f4) rfl
      have r5 := (unhide T2).at (o := 5) (v := .string t.f5) rfl
      have r6 := (unhide T2).at (o := 6) (v := .string t.f6) rfl
      have zt := (unhide T2).lt
      have p1 := (unhide R2).at (o := 1) (v := .int .i64 P.f1) rfl
      have zp := (unhide R2).lt
      cases hq : findP l t.f2 with
      | none =>
        have NO := hide (unhide GI none (by rw [hr, hq]; simp))
        simp only [parV, Option.isSome]
        clear GI hr hq
        go_wp2_with fail
        go_ret
        exact ⟨retB (b := false) ⟨fun h => (by cases h), fun h => by have := ((unhide NO).1 h).1; simp at this⟩, bAl (unhide B2) _⟩
      | some Q =>
        simp only [parV, Option.isSome]
        by_cases hz : zAtomT t
        · have YES := hide (unhide GI (some Q.f1) (hr.trans (by rw [if_pos hz, hq]; rfl)))
          obtain ⟨z3, z4, z5, z6⟩ := hz
          rw [z3] at r3
          rw [z4] at r4
          rw [z5] at r5
          rw [z6] at r6
          clear GI hr hq z3 z4 z5 z6
          generalize Q.f1 = K at YES ⊢
          by_cases hk : K = P.f1
          · subst hk
            have Y2 : Hid (opOk t.f1 P.f1 = true ↔ GTerm l t) := hide ⟨fun h => (unhide YES).2 ⟨rfl, h⟩, fun h => ((unhide YES).1 h).2⟩
            clear YES
            generalize P.f1 = K at *
            generalize t.f1 = O at *
            rcases (by omega : O = 1 ∨ O = 2 ∨ O = 3 ∨ O = 4 ∨ (O ≠ 1 ∧ O ≠ 2 ∧ O ≠ 3 ∧ O ≠ 4)) with rfl | rfl | rfl | rfl | ⟨o1, o2, o3, o4⟩
            all_goals go_wp2_with fail
            all_goals go_ret
            all_goals refine ⟨retB (Iff.trans ?_ (unhide Y2)), bAl (unhide B2) _⟩
            all_goals (unfold opOk; first | (simp; done) | (simp [o1, o2, o3, o4]; done) | (simp; omega))
          · have dk : (K != P.f1) = true := by simpa using hk
            go_wp2_with fail
            go_ret
            exact ⟨retB (b := false) ⟨fun h => (by cases h), fun h => absurd (Option.some.inj ((unhide YES).1 h).1) hk⟩, bAl (unhide B2) _⟩
        · have NO := hide (unhide GI none (by rw [hr, if_neg hz]))
          have hz' : ¬ (t.f3 = 0 ∧ t.f4 = 0 ∧ t.f5 = empB ∧ t.f6 = empB) := hz
          clear GI hr hq hz
          have fin : ∀ W : World, Below w.heap.size w W → RetB (.returned (.bool false)) (GTerm l t) ∧ Below w.heap.size w W := fun W h => ⟨retB (b := false) ⟨fun h => (by cases h), fun h => by have := ((unhide NO).1 h).1; simp at this⟩, h⟩
          have FIN := hide fin
          clear fin
          by_cases z3 : t.f3 = 0
          · by_cases z4 : t.f4 = 0
            · by_cases z5 : t.f5 = empB
              · have d6 := notEmp (fun z6 => hz' ⟨z3, z4, z5, z6⟩)
                rw [z3] at r3
                rw [z4] at r4
                rw [z5] at r5
                clear hz' z3 z4 z5
                go_wp2_with fail
                go_ret
                exact unhide FIN _ (bAl (unhide B2) _)
              · have d5 := notEmp z5
                rw [z3] at r3
                rw [z4] at r4
                clear hz' z3 z4 z5
                go_wp2_with fail
                go_ret
                exact unhide FIN _ (bAl (unhide B2) _)
            · rw [z3] at r3
              clear hz' z3
              go_wp2_with fail
              go_ret
              exact unhide FIN _ (bAl (unhide B2) _)
          · clear hz'
            go_wp2_with fail
            go_ret
            exact unhide FIN _ (bAl (unhide B2) _)
end Go.Proofs.YtmkgehcfdcoliaaGreat.V
