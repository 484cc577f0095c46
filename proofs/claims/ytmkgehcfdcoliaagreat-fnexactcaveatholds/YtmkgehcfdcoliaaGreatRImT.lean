/- impl.opTakes, CavTerm.rightKind, goodTerm. -/
import Derived.Test.YtmkgehcfdcoliaaGreatRPur
import Derived.Test.YtmkgehcfdcoliaaGreatRSpT
import Derived.Test.YtmkgehcfdcoliaaGreatWValI
namespace Go.Proofs.YtmkgehcfdcoliaaGreat.V
open Go.RowKit Go.Maps

theorem zeroI (w : World) : (zeroValue 3).run Tryz.prog w = .ok (.int .i64 0) w := by kernel_rfl

set_option maxHeartbeats 400000 in
theorem opTakes_any (O K : Int) (w : World) :
    Calls Tryz.prog 75 #[.int .i64 O, .int .i64 K] w fun e w' => e = .returned (.bool (opOk O K)) ∧ w = w' := by
  rcases (by omega : O = 1 ∨ O = 2 ∨ O = 3 ∨ O = 4 ∨ (O ≠ 1 ∧ O ≠ 2 ∧ O ≠ 3 ∧ O ≠ 4)) with rfl | rfl | rfl | rfl | ⟨o1, o2, o3, o4⟩
  all_goals go_enter Tryz.func75, Tryz.ntmps75
  all_goals go_wp2_with fail
  all_goals go_ret
  all_goals refine ⟨ret_bool ?_, rfl⟩
  all_goals (unfold opOk; first | (simp; done) | (simp [o1, o2, o3, o4]; done) | (rw [Bool.eq_iff_iff]; simp; omega))

/-- The kinds that are held. -/
def kM (l : List ParamT) : ByteArray → Option Value := fun s => (findP l s).map (fun p => Value.int .i64 p.f1)
def kI (l : List ParamT) (s : ByteArray) : Int := ((findP l s).map (·.f1)).getD 0
theorem kM_get (l : List ParamT) (s : ByteArray) : (kM l s).getD (.int .i64 0) = .int .i64 (kI l s) := by
  unfold kM kI; cases findP l s <;> rfl
theorem kM_some (l : List ParamT) (s : ByteArray) : (kM l s).isSome = (findP l s).isSome := by unfold kM; simp
def rK (l : List ParamT) (t : CavTermT) : Int :=
  if t.f2 = empB ∧ goodAtom t.f3 t.f4 t.f5 t.f6 = true then t.f3 else if zAtomT t then kI l t.f2 else 0

theorem notZ {t : CavTermT} (h : ¬ zAtomT t) : ¬ t.f3 = 0 ∨ (t.f3 = 0 ∧ ¬ t.f4 = 0) ∨ (t.f3 = 0 ∧ t.f4 = 0 ∧ t.f5.toList.isEmpty = false) ∨ (t.f3 = 0 ∧ t.f4 = 0 ∧ t.f5 = empB ∧ t.f6.toList.isEmpty = false) := by
  by_cases z3 : t.f3 = 0
  · by_cases z4 : t.f4 = 0
    · by_cases z5 : t.f5 = empB
      · exact .inr (.inr (.inr ⟨z3, z4, z5, notEmp fun z6 => h ⟨z3, z4, z5, z6⟩⟩))
      · exact .inr (.inr (.inl ⟨z3, z4, notEmp z5⟩))
    · exact .inr (.inl ⟨z3, z4⟩)
  · exact .inl z3

set_option maxRecDepth 20000 in
set_option maxHeartbeats 1000000 in
theorem rightKind_any (t : CavTermT) (b n : Nat) (l : List ParamT) (w : World) (ht : t.Ok) (hk : KMs w b n (kM l)) :
    Calls Tryz.prog 74 #[tAgg t, .map (some b)] w fun e w' => e = .returned (.int .i64 (rK l t)) ∧ Below w.heap.size w w' := by
  have q2 := hide (fun w => iGoodAtom_any t.f3 t.f4 t.f5 t.f6 w ht.n9 ht.o5 ht.o6)
  have R0 := hide (RowIs.new w #[.string t.f0, .int .i64 t.f1, .string t.f2, .int .i64 t.f3, .int .i64 t.f4, .string t.f5, .string t.f6] 81)
  have B0 := hide (bAl (Below.refl w.heap.size w) (.cells #[.string t.f0, .int .i64 t.f1, .string t.f2, .int .i64 t.f3, .int .i64 t.f4, .string t.f5, .string t.f6] 81))
  have HK := hide hk
  have o2 := ht.o2
  have hzb := hk.lt
  have ek := hide (kM_get l t.f2)
  have nz := @notZ t
  obtain ⟨R, hR⟩ : ∃ R, rK l t = R := ⟨_, rfl⟩
  have HR : Hid ((if t.f2 = empB ∧ goodAtom t.f3 t.f4 t.f5 t.f6 = true then t.f3 else if zAtomT t then kI l t.f2 else 0) = R) := hide hR
  rw [hR]
  clear ht hk hR
  generalize goodAtom t.f3 t.f4 t.f5 t.f6 = G at *
  by_cases he : t.f2 = empB
  · have d2 : t.f2.toList.isEmpty = true := by rw [he]; exact isEmp
    have HE := hide he
    clear he
    go_enter Tryz.func74, Tryz.ntmps74
    go_wp2_with fail
    refine (unhide q2 _).mono ?_
    rintro e w1 ⟨rfl, hb1⟩
    have R1 := (unhide R0).keep hb1
    have B1 := hide (bTr (unhide B0) hb1)
    have r2 := R1.at (o := 2) (v := .string t.f2) rfl
    have r3 := R1.at (o := 3) (v := .int .i64 t.f3) rfl
    have r4 := R1.at (o := 4) (v := .int .i64 t.f4) rfl
    have r5 := R1.at (o := 5) (v := .string t.f5) rfl
    have r6 := R1.at (o := 6) (v := .string t.f6) rfl
    have zr := R1.lt
    clear hb1 R1 R0 B0 q2
    cases G
    · by_cases hz : zAtomT t
      · have e : Hid (kI l t.f2 = R) := hide (by have := unhide HR; rwa [if_neg (by simp), if_pos hz] at this)
        obtain ⟨z3, z4, z5, z6⟩ := hz
        rw [z3] at r3
        rw [z4] at r4
        rw [z5] at r5
        rw [z6] at r6
        clear HR nz z3 z4 z5 z6 d2
        go_wp2_with (at_lookup; refine wpList_get_km _ kStr rfl _ _ _ rfl _ Tryz.underlying87 (zeroI _) b n _ rfl ((unhide HK).keepB (unhide B1) hzb) t.f2 rfl o2 _ (unhide ek) ?_)
        go_ret
        exact ⟨ret_int (unhide e), unhide B1⟩
      · have e : Hid (0 = R) := hide (by have := unhide HR; rwa [if_neg (by simp), if_neg hz] at this)
        replace nz := nz hz
        clear HR hz
        rcases nz with z3 | ⟨z3, z4⟩ | ⟨z3, z4, z5⟩ | ⟨z3, z4, z5, z6⟩
        all_goals go_wp2_with fail
        all_goals go_ret
        all_goals exact ⟨ret_int (unhide e), unhide B1⟩
    · have e : Hid (t.f3 = R) := hide (by have := unhide HR; rwa [if_pos ⟨unhide HE, rfl⟩] at this)
      clear HR nz
      go_wp2_with fail
      go_ret
      exact ⟨ret_int (unhide e), unhide B1⟩
  · have d2 := notEmp he
    by_cases hz : zAtomT t
    · have e : Hid (kI l t.f2 = R) := hide (by have := unhide HR; rwa [if_neg (fun h => he h.1), if_pos hz] at this)
      obtain ⟨z3, z4, z5, z6⟩ := hz
      clear HR nz
      go_enter Tryz.func74, Tryz.ntmps74
      go_wp2_with (at_lookup; refine wpList_get_km _ kStr rfl _ _ _ rfl _ Tryz.underlying87 (zeroI _) b n _ rfl ((unhide HK).keepB (bAl (Below.refl _ _) _) hzb) t.f2 rfl o2 _ (unhide ek) ?_)
      go_ret
      exact ⟨ret_int (unhide e), bAl (Below.refl _ _) _⟩
    · have e : Hid (0 = R) := hide (by have := unhide HR; rwa [if_neg (fun h => he h.1), if_neg hz] at this)
      replace nz := nz hz
      clear HR hz
      rcases nz with z3 | ⟨z3, z4⟩ | ⟨z3, z4, z5⟩ | ⟨z3, z4, z5, z6⟩
      all_goals go_enter Tryz.func74, Tryz.ntmps74
      all_goals go_wp2_with fail
      all_goals go_ret
      all_goals exact ⟨ret_int (unhide e), bAl (Below.refl _ _) _⟩

/-- The term is good, by what goodTerm looks at. -/
theorem gTerm_iff {l : List ParamT} {t : CavTermT} (hA : AllP l l.length) : GTerm l t ↔ ((findP l t.f0).isSome = true ∧ kI l t.f0 = rK l t ∧ opOk t.f1 (kI l t.f0) = true) := by
  have hpos : ∀ s p, findP l s = some p → 1 ≤ p.f1 ∧ s ≠ empB := fun s p h => by
    obtain ⟨hm, hs⟩ := findP_mem h
    obtain ⟨i, hi, rfl⟩ := List.getElem_of_mem hm
    have g := gPar_true (hA i hi hi)
    refine ⟨g.2.1, fun e => ?_⟩
    rw [hs, e] at g
    have := g.1
    rw [goodName_size (.inl (by show (0 : Nat) < 1; omega))] at this
    cases this
  unfold GTerm
  cases hf : findP l t.f0 with
  | none => simp
  | some p =>
    have hp := (hpos _ _ hf).1
    have ek : kI l t.f0 = p.f1 := by unfold kI; rw [hf]; rfl
    rw [ek]
    have key : (rKind l t = some p.f1) ↔ (p.f1 = rK l t) := by
      unfold rKind rK
      by_cases he : t.f2 = empB
      · rw [if_pos he]
        by_cases hg : goodAtom t.f3 t.f4 t.f5 t.f6 = true
        · rw [if_pos hg, if_pos ⟨he, hg⟩]; simp; exact eq_comm
        · rw [if_neg hg, if_neg (fun h => hg h.2)]
          have hn : findP l t.f2 = none := by
            cases h : findP l t.f2 with
            | none => rfl
            | some q => exact absurd he (hpos _ _ h).2
          have : kI l t.f2 = 0 := by unfold kI; rw [hn]; rfl
          rw [this]
          simp; omega
      · rw [if_neg he, if_neg (c := t.f2 = empB ∧ goodAtom t.f3 t.f4 t.f5 t.f6 = true) (fun h => he h.1)]
        by_cases hz : zAtomT t
        · rw [if_pos hz, if_pos hz]
          unfold kI
          cases h : findP l t.f2 with
          | none => simp; omega
          | some q => simp; exact eq_comm
        · rw [if_neg hz, if_neg hz]; simp; omega
    simp only [Option.some.injEq, exists_eq_left', Option.isSome_some, true_and]
    rw [key]

set_option maxRecDepth 20000 in
set_option maxHeartbeats 1000000 in
theorem goodTerm_any (t : CavTermT) (b n : Nat) (l : List ParamT) (w : World) (ht : t.Ok) (hk : KMs w b n (kM l)) (hA : AllP l l.length) :
    Calls Tryz.prog 48 #[tAgg t, .map (some b)] w fun e w' => RetB e (GTerm l t) ∧ Below w.heap.size w w' := by
  have R0 := hide (RowIs.new w #[.string t.f0, .int .i64 t.f1, .string t.f2, .int .i64 t.f3, .int .i64 t.f4, .string t.f5, .string t.f6] 81)
  have B0 := hide (bAl (Below.refl w.heap.size w) (.cells #[.string t.f0, .int .i64 t.f1, .string t.f2, .int .i64 t.f3, .int .i64 t.f4, .string t.f5, .string t.f6] 81))
  have HK := hide hk
  have hzb := hk.lt
  have q1 := hide (fun w hk => rightKind_any t b n l w ht hk)
  have q2 := hide (fun K w => opTakes_any t.f1 K w)
  have o0 := ht.o0
  have ek := hide (kM_get l t.f0)
  have es := hide (kM_some l t.f0)
  have GI := hide (gTerm_iff (t := t) hA)
  clear ht hk hA
  generalize rK l t = R at *
  generalize kI l t.f0 = K at *
  generalize GTerm l t = GT at *
  cases hf : (findP l t.f0).isSome
  · rw [hf] at es GI
    go_enter Tryz.func48, Tryz.ntmps48
    go_wp2_with (at_lookup; refine wpList_look_km _ kStr rfl _ _ _ rfl _ Tryz.underlying87 (zeroI _) b n _ rfl ((unhide HK).keepB (bAl (Below.refl _ _) _) hzb) t.f0 rfl o0 _ _ (unhide ek) (unhide es) ?_)
    go_ret
    exact ⟨retB (b := false) (by rw [unhide GI]; simp), bAl (Below.refl _ _) _⟩
  · rw [hf] at es GI
    go_enter Tryz.func48, Tryz.ntmps48
    go_wp2_with (at_lookup; refine wpList_look_km _ kStr rfl _ _ _ rfl _ Tryz.underlying87 (zeroI _) b n _ rfl ((unhide HK).keepB (bAl (Below.refl _ _) _) hzb) t.f0 rfl o0 _ _ (unhide ek) (unhide es) ?_)
    refine (unhide q1 _ ((unhide HK).keepB (bAl (Below.refl _ _) _) hzb)).mono ?_
    rintro e w1 ⟨rfl, hb1⟩
    have B1 := hide (bTr (unhide B0) hb1)
    have r := (unhide R0).keep hb1
    have r1 := r.at (o := 1) (v := .int .i64 t.f1) rfl
    have zr := r.lt
    clear hb1 r R0 B0 q1
    by_cases e : K = R
    · subst e
      go_wp2_with fail
      refine (unhide q2 _ _).mono ?_
      rintro e w2 ⟨rfl, rfl⟩
      go_wp2_with fail
      go_ret
      exact ⟨retB (by rw [unhide GI]; simp), unhide B1⟩
    · have d : (K == R) = false := by simpa using e
      go_wp2_with fail
      go_ret
      exact ⟨retB (b := false) (by rw [unhide GI]; simp [e]), unhide B1⟩
end Go.Proofs.YtmkgehcfdcoliaaGreat.V
