/- GoodSessConf on both sides. -/
import Derived.Test.YtgmifnppapifoaaSCo
namespace Go.Proofs.Ytgmifnppapifoaa.V
set_option linter.unusedSimpArgs false
set_option maxRecDepth 20000
open Go.ChangeShapes Go.WideShapes Go.RowKit

def GSc (t : SessConfT) : Prop := t.f0.length ≤ 64 ∧ (1 ≤ t.f1 ∧ t.f1 ≤ 1000000) ∧ (1 ≤ t.f2 ∧ t.f2 ≤ 1000000)
instance (t : SessConfT) : Decidable (GSc t) := by unfold GSc; infer_instance
set_option maxHeartbeats 1000000 in
theorem sGoodSessConf_n (e : SessConfE) (w : World) (hn : SessConfN e.t) (hm : SessConfM w 0 e) :
    Calls Try.prog 5 #[.agg #[.slice e.h0.a e.h0.len e.h0.cap, .int .i64 e.t.f1, .int .i64 e.t.f2]] w fun r w' => r = .returned (.bool (decide (GSc e.t))) ∧ Below w.heap.size w w' := by
  have hl := hm.m0.1
  have hx : e.h0.len ≤ maxLen := by rw [hl]; exact hn.l0
  obtain ⟨⟨l, i, m⟩, ⟨a, n, c⟩⟩ := e
  simp only at hl hx ⊢
  have hd : decide (GSc ⟨l, i, m⟩) = decide (n ≤ 64 ∧ (1 ≤ i ∧ i ≤ 1000000) ∧ (1 ≤ m ∧ m ≤ 1000000)) := by unfold GSc; rw [hl]
  rw [hd]
  clear hd hn hm hl
  unfold maxLen at hx
  go_enter Try.func5, Try.ntmps5
  go_wp2
  all_goals go_ret
  all_goals refine ⟨congrArg (fun b => Ending.returned (.bool b)) ?_, by first | exact Below.refl _ _ | exact bAl (Below.refl _ _) _⟩
  all_goals (rw [Bool.eq_iff_iff]; simp; try omega)
set_option maxHeartbeats 1000000 in
theorem iGoodSessConf_n (e : SessConfE) (w : World) (hn : SessConfN e.t) (hm : SessConfM w 0 e) :
    Calls Try.prog 7 #[.agg #[.slice e.h0.a e.h0.len e.h0.cap, .int .i64 e.t.f1, .int .i64 e.t.f2]] w fun r w' => r = .returned (.bool (decide (GSc e.t))) ∧ Below w.heap.size w w' := by
  have hl := hm.m0.1
  have hx : e.h0.len ≤ maxLen := by rw [hl]; exact hn.l0
  obtain ⟨⟨l, i, m⟩, ⟨a, n, c⟩⟩ := e
  simp only at hl hx ⊢
  have hd : decide (GSc ⟨l, i, m⟩) = decide (n ≤ 64 ∧ (1 ≤ i ∧ i ≤ 1000000) ∧ (1 ≤ m ∧ m ≤ 1000000)) := by unfold GSc; rw [hl]
  rw [hd]
  clear hd hn hm hl
  unfold maxLen at hx
  go_enter Try.func7, Try.ntmps7
  go_wp2
  all_goals go_ret
  all_goals refine ⟨congrArg (fun b => Ending.returned (.bool b)) ?_, by first | exact Below.refl _ _ | exact bAl (Below.refl _ _) _⟩
  all_goals (rw [Bool.eq_iff_iff]; simp; try omega)
def RetB (e : Ending) (p : Prop) : Prop := ∃ b : Bool, e = .returned (.bool b) ∧ (b = true ↔ p)
theorem retB_of {P : Prop} [Decidable P] {r : Ending} (h : r = .returned (.bool (decide P))) : RetB r P := ⟨_, h, by simp⟩
theorem sGoodSessConf_m (e : SessConfE) (w : World) (hn : SessConfN e.t) (hm : SessConfM w 0 e) :
    Calls Try.prog 5 #[.agg #[.slice e.h0.a e.h0.len e.h0.cap, .int .i64 e.t.f1, .int .i64 e.t.f2]] w fun r w' => RetB r (GSc e.t) ∧ Below w.heap.size w w' :=
  (sGoodSessConf_n e w hn hm).mono fun _ _ h => ⟨retB_of h.1, h.2⟩
theorem iGoodSessConf_m (e : SessConfE) (w : World) (hn : SessConfN e.t) (hm : SessConfM w 0 e) :
    Calls Try.prog 7 #[.agg #[.slice e.h0.a e.h0.len e.h0.cap, .int .i64 e.t.f1, .int .i64 e.t.f2]] w fun r w' => RetB r (GSc e.t) ∧ Below w.heap.size w w' :=
  (iGoodSessConf_n e w hn hm).mono fun _ _ h => ⟨retB_of h.1, h.2⟩
end Go.Proofs.Ytgmifnppapifoaa.V
