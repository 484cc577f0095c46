/- What a caveat is of what is given: pure; spec.l6Holds, spec.CaveatHolds. -/
import Derived.Test.YtmkgehcfdcoliaaGreatRTh
import Derived.Test.YtmkgehcfdcoliaaGreatRSpC
namespace Go.Proofs.YtmkgehcfdcoliaaGreat.V
open Go.RowKit

/-- No where one is No, Maybe where one is Maybe, else Yes. -/
def resF (F : CavTermT → Int) (l : List CavTermT) : Int := if l.any (fun t => F t == 0) = true then 0 else if l.any (fun t => F t == 2) = true then 2 else 1
theorem resF_step (F : CavTermT → Int) {l : List CavTermT} {k : Nat} (hk : k < l.length) :
    resF F (l.take (k + 1)) = if F l[k] = 0 ∨ (F l[k] = 2 ∧ resF F (l.take k) = 1) then F l[k] else resF F (l.take k) := by
  rw [List.take_succ_eq_append_getElem hk]
  unfold resF
  rw [List.any_append, List.any_append]
  simp only [List.any_cons, List.any_nil, Bool.or_false]
  generalize (List.take k l).any (fun t => F t == 0) = A
  generalize (List.take k l).any (fun t => F t == 2) = B
  generalize F l[k] = x
  by_cases h0 : x = 0
  · subst h0; cases A <;> simp
  · have e0 : (x == 0) = false := by simpa using h0
    rw [e0]
    by_cases h2 : x = 2
    · subst h2; cases A <;> cases B <;> simp
    · have e2 : (x == 2) = false := by simpa using h2
      rw [e2]
      cases A <;> cases B <;> simp [h0, h2]
theorem resF_cases (F : CavTermT → Int) (l : List CavTermT) : resF F l = 0 ∨ resF F l = 1 ∨ resF F l = 2 := by
  unfold resF; split
  · exact .inl rfl
  · split
    · exact .inr (.inr rfl)
    · exact .inr (.inl rfl)
theorem termR_cases (l : List ParamT) (g : ByteArray → Option AtomT) (t : CavTermT) : termR l g t = 0 ∨ termR l g t = 1 ∨ termR l g t = 2 := by
  unfold termR tRes said; split
  · split
    · exact .inr (.inl rfl)
    · exact .inl rfl
  · exact .inr (.inr rfl)
end Go.Proofs.YtmkgehcfdcoliaaGreat.V
