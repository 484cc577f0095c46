/- The states of a recovery along its history. Pure. -/
import Derived.Test.YtjmpakpodhbbpaaKWh
import Derived.Test.YtjmpakpodhbbpaaKWj
namespace Go.Proofs.Ytjmpakpodhbbpaa
open Go.RowKit

/-- The state behind j events. -/
def stR (x : RcT) : List RecoverEventT → Nat → RcT
  | _, 0 => x
  | [], _ + 1 => x
  | y :: l, j + 1 => stR (rcNext x y.f0 y.f1 y.f2) l j
theorem stR_next : ∀ (l : List RecoverEventT) (x : RcT) (j : Nat) (hj : j < l.length), stR x l (j + 1) = rcNext (stR x l j) l[j].f0 l[j].f1 l[j].f2
  | [], _, _, hj => by cases hj
  | y :: l, x, 0, _ => by cases l <;> rfl
  | y :: l, x, j + 1, hj => by
    show stR (rcNext x y.f0 y.f1 y.f2) l (j + 1) = _
    rw [stR_next l _ j (by simpa using hj)]
    rfl
theorem runR_get : ∀ (l : List RecoverEventT) (x : RcT) (j : Nat) (hj : j < l.length), (runR x l)[j]? = some (rcFault (stR x l j) l[j].f0 l[j].f1 l[j].f2)
  | [], _, _, hj => by cases hj
  | y :: l, x, 0, _ => by cases l <;> rfl
  | y :: l, x, j + 1, hj => by
    show (runR (rcNext x y.f0 y.f1 y.f2) l)[j]? = _
    rw [runR_get l _ j (by simpa using hj)]
    rfl
theorem stR_delay (l : List RecoverEventT) (x : RcT) : ∀ j, j ≤ l.length → (stR x l j).delay = x.delay ∧ (stR x l j).need = x.need
  | 0, _ => by cases l <;> exact ⟨rfl, rfl⟩
  | j + 1, h => by
    have ih := stR_delay l x j (by omega)
    rw [stR_next l x j (by omega), (rcNext_votes _ _ _ _).2]
    refine ⟨ih.1, ?_⟩
    rw [show (rcNext (stR x l j) l[j].f0 l[j].f1 l[j].f2).need = (stR x l j).need by unfold rcNext; (repeat' split) <;> rfl]
    exact ih.2
/-- Going back from what is under way: what is left of it ahead of event k. -/
structure BackR (x0 : RcT) (l : List RecoverEventT) (i k : Nat) (v : Int) : Prop where
  under : (stR x0 l k).under = true
  votes : ((stR x0 l i).votes.length : Int) = (stR x0 l k).votes.length + v
  ready : (stR x0 l i).ready = (stR x0 l k).ready
theorem BackR.start {x0 : RcT} {l : List RecoverEventT} {i : Nat} (hu : (stR x0 l i).under = true) : BackR x0 l i i 0 := ⟨hu, by omega, rfl⟩
theorem BackR.bad {x0 : RcT} {l : List RecoverEventT} {i k : Nat} {v : Int} (h : BackR x0 l i (k + 1) v) (hk : k < l.length) (hf : ¬ rcFault (stR x0 l k) l[k].f0 l[k].f1 l[k].f2 = 0) : BackR x0 l i k v := by
  have e : stR x0 l (k + 1) = stR x0 l k := by rw [stR_next l x0 k hk]; exact rcNext_bad hf
  exact ⟨by rw [← e]; exact h.under, by rw [← e]; exact h.votes, by rw [← e]; exact h.ready⟩
theorem BackR.vote {x0 : RcT} {l : List RecoverEventT} {i k : Nat} {v : Int} (h : BackR x0 l i (k + 1) v) (hk : k < l.length) (hf : rcFault (stR x0 l k) l[k].f0 l[k].f1 l[k].f2 = 0) (h2 : l[k].f0 = 2) : BackR x0 l i k (v + 1) := by
  have e := stR_next l x0 k hk
  rw [rcNext_vote hf h2] at e
  have h1 := h.under
  have hv := h.votes
  have hr := h.ready
  rw [e] at h1 hv hr
  simp only [List.length_append, List.length_singleton] at hv
  exact ⟨h1, by push_cast at hv; omega, hr⟩
theorem BackR.ask {x0 : RcT} {l : List RecoverEventT} {i k : Nat} {v : Int} (h : BackR x0 l i (k + 1) v) (hk : k < l.length) (hf : rcFault (stR x0 l k) l[k].f0 l[k].f1 l[k].f2 = 0) (h1 : l[k].f0 = 1) :
    ((stR x0 l i).votes.length : Int) = v ∧ (stR x0 l i).ready = l[k].f1 + x0.delay ∧ 0 ≤ l[k].f1 := by
  have e := stR_next l x0 k hk
  rw [rcNext_ask hf h1] at e
  have hv := h.votes
  have hr := h.ready
  rw [e] at hv hr
  refine ⟨by simpa using hv, ?_, (unf_time hf).1⟩
  rw [hr, ← (stR_delay l x0 k (by omega)).1]
theorem BackR.other {x0 : RcT} {l : List RecoverEventT} {i k : Nat} {v : Int} (h : BackR x0 l i (k + 1) v) (hk : k < l.length) (hf : rcFault (stR x0 l k) l[k].f0 l[k].f1 l[k].f2 = 0) (h1 : ¬ l[k].f0 = 1) (h2 : ¬ l[k].f0 = 2) : False := by
  have e := stR_next l x0 k hk
  rw [rcNext_else hf h1 h2] at e
  have hu := h.under
  rw [e] at hu
  cases hu
theorem BackR.none {x0 : RcT} {l : List RecoverEventT} {i : Nat} {v : Int} (h : BackR x0 l i 0 v) (hx : x0.under = false) : False := by
  have hu := h.under
  have e : stR x0 l 0 = x0 := by cases l <;> rfl
  rw [e, hx] at hu
  cases hu
/-- What is taken over. -/
theorem take_ok {x : RcT} {t : Int} {s : ByteArray} (h : rcFault x 4 t s = 0) : x.under = true ∧ x.need ≤ (x.votes.length : Int) ∧ x.ready ≤ t := by
  have h0 := rcFault_zero h
  refine ⟨?_, ?_, ?_⟩
  · have := h0 2 (by omega)
    cases hu : x.under
    · simp [rcB, hu] at this
    · rfl
  · have := h0 5 (by omega)
    simp [rcB] at this
    omega
  · have := h0 6 (by omega)
    simp [rcB] at this
    omega
end Go.Proofs.Ytjmpakpodhbbpaa
