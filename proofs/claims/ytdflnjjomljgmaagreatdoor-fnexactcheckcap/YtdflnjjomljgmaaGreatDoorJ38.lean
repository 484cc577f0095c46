/- RImT, RImP, one behind the other. -/
import Derived.Test.YtdflnjjomljgmaaGreatDoorJ33
import Derived.Test.YtdflnjjomljgmaaGreatDoorJ34
import Derived.Test.YtdflnjjomljgmaaGreatDoorJ18
/- impl.opTakes, CavTerm.rightKind, goodTerm. -/
namespace Go.Proofs.YtdflnjjomljgmaaGreatDoor.V
open Go.RowKit Go.Maps

theorem zeroI (w : World) : (zeroValue 3).run Tryz.prog w = .ok (.int .i64 0) w := by kernel_rfl

set_option maxHeartbeats 400000 in
theorem opTakes_any (O K : Int) (w : World) :
    Calls Tryz.prog 78 #[.int .i64 O, .int .i64 K] w fun e w' => e = .returned (.bool (opOk O K)) ∧ w = w' := by
  rcases (by omega : O = 1 ∨ O = 2 ∨ O = 3 ∨ O = 4 ∨ (O ≠ 1 ∧ O ≠ 2 ∧ O ≠ 3 ∧ O ≠ 4)) with rfl | rfl | rfl | rfl | ⟨o1, o2, o3, o4⟩
  all_goals go_enter Tryz.func78, Tryz.ntmps78
  all_goals go_wp2_with fail
  all_goals go_ret
  all_goals refine ⟨ret_bool ?_, rfl⟩
  all_goals (unfold opOk; first | (simp; done) | (simp [o1, o2, o3, o4]; done) | (rw [Bool.eq_iff_iff]; simp; omega))

/-- The kinds that are held. -/
def kM (l : List ParamT) : ByteArray → Option Value := fun s => (findP l s).map (fun p => Value.int .i64 p.f1)
def kI (l : List ParamT) (s : ByteArray) : Int := ((findP l s).map (·.f1)).getD 0
theorem kM_get (l : List ParamT) (s : ByteArray) : (kM l s).getD (.int .i64 0) = .int .i64 (kI l s) := by
  unfold kM kI; cases findP l s <;> rfl
theorem kM_some (l : List ParamT) (s : ByteArray) : (kM l s).isSome = (findP l s).isSome := by unfold kM; simp
def rK (l : List ParamT) (t : CavTermT) : Int :=
  if t.f2 = empB ∧ goodAtom t.f3 t.f4 t.f5 t.f6 = true then t.f3 else if zAtomT t then kI l t.f2 else 0

theorem notZ {t : CavTermT} (h : ¬ zAtomT t) : ¬ t.f3 = 0 ∨ (t.f3 = 0 ∧ ¬ t.f4 = 0) ∨ (t.f3 = 0 ∧ t.f4 = 0 ∧ t.f5.toList.isEmpty = false) ∨ (t.f3 = 0 ∧ t.f4 = 0 ∧ t.f5 = empB ∧ t.f6.toList.isEmpty = false) := by
  by_cases z3 : t.f3 = 0
  · by_cases z4 : t.f4 = 0
    · by_cases z5 : t.f5 = empB
      · exact .inr (.inr (.inr ⟨z3, z4, z5, notEmp fun z6 => h ⟨z3, z4, z5, z6⟩⟩))
      · exact .inr (.inr (.inl ⟨z3, z4, notEmp z5⟩))
    · exact .inr (.inl ⟨z3, z4⟩)
  · exact .inl z3

/-- The term is good, by what goodTerm looks at. -/
theorem gTerm_iff {l : List ParamT} {t : CavTermT} (hA : AllP l l.length) : GTerm l t ↔ ((findP l t.f0).isSome = true ∧ kI l t.f0 = rK l t ∧ opOk t.f1 (kI l t.f0) = true) := by
  have hpos : ∀ s p, findP l s = some p → 1 ≤ p.f1 ∧ s ≠ empB := fun s p h => by
    obtain ⟨hm, hs⟩ := findP_mem h
    obtain ⟨i, hi, rfl⟩ := List.getElem_of_mem hm
    have g := gPar_true (hA i hi hi)
    refine ⟨g.2.1, fun e => ?_⟩
    rw [hs, e] at g
    have := g.1
    rw [goodName_size (.inl (by show (0 : Nat) < 1; omega))] at this
    cases this
  unfold GTerm
  cases hf : findP l t.f0 with
  | none => simp
  | some p =>
    have hp := (hpos _ _ hf).1
    have ek : kI l t.f0 = p.f1 := by unfold kI; rw [hf]; rfl
    rw [ek]
    have key : (rKind l t = some p.f1) ↔ (p.f1 = rK l t) := by
      unfold rKind rK
      by_cases he : t.f2 = empB
      · rw [if_pos he]
        by_cases hg : goodAtom t.f3 t.f4 t.f5 t.f6 = true
        · rw [if_pos hg, if_pos ⟨he, hg⟩]; simp; exact eq_comm
        · rw [if_neg hg, if_neg (fun h => hg h.2)]
          have hn : findP l t.f2 = none := by
            cases h : findP l t.f2 with
            | none => rfl
            | some q => exact absurd he (hpos _ _ h).2
          have : kI l t.f2 = 0 := by unfold kI; rw [hn]; rfl
          rw [this]
          simp; omega
      · rw [if_neg he, if_neg (c := t.f2 = empB ∧ goodAtom t.f3 t.f4 t.f5 t.f6 = true) (fun h => he h.1)]
        by_cases hz : zAtomT t
        · rw [if_pos hz, if_pos hz]
          unfold kI
          cases h : findP l t.f2 with
          | none => simp; omega
          | some q => simp; exact eq_comm
        · rw [if_neg hz, if_neg hz]; simp; omega
    simp only [Option.some.injEq, exists_eq_left', Option.isSome_some, true_and]
    rw [key]

end Go.Proofs.YtdflnjjomljgmaaGreatDoor.V
/- impl.goodParam, goodList at params. -/
namespace Go.Proofs.YtdflnjjomljgmaaGreatDoor.V
open Go.RowKit

def AllParam (P : ParamT → Prop) (l : List ParamT) (k : Nat) : Prop := ∀ i (h : i < l.length), i < k → P l[i]
theorem AllParam.step {P : ParamT → Prop} {l : List ParamT} {k : Nat} (h : AllParam P l k) (hk : k < l.length) (g : P l[k]) : AllParam P l (k + 1) := by
  intro i hi h1
  rcases Nat.lt_or_ge i k with h2 | h2
  · exact h i hi h2
  · obtain rfl : i = k := by omega
    exact g

end Go.Proofs.YtdflnjjomljgmaaGreatDoor.V
