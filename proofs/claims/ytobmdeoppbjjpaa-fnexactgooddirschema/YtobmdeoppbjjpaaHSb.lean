/- What spec.GoodDirSchema asks. -/
import Derived.Test.YtobmdeoppbjjpaaHSa
import Derived.Test.YtobmdeoppbjjpaaHIh
import Derived.BigQuiet
namespace Go.Proofs.Ytobmdeoppbjjpaa.V
set_option linter.unusedSimpArgs false
set_option linter.unusedVariables false
open Go.RowKit Go.Maps

def TyAt (l : List AttrTypeE) (i : Nat) : Prop := ∀ h : i < l.length, (goodName l[i].t.f0 = true ∧ ¬ l[i].t.f1 < 1 ∧ ¬ 4 < l[i].t.f1) ∧ (0 < i → cmpT l[i - 1].t.f0.data.toList l[i].t.f0.data.toList < 0)
def InT (lt : List AttrTypeE) (s : ByteArray) : Prop := s ∈ (lt.map (·.t)).map (·.f0)
def fstE (la : List ClassE) (s : ByteArray) : Option ClassT := (la.find? fun c => decide (c.t.f0 = s)).map (·.t)
def CCond (e : ClassT) : Prop := goodName e.f0 = true ∧ ¬ 30 < e.f2.length ∧ ¬ 30 < e.f3.length ∧ RisS e.f2 ∧ RisS e.f3
def CAt (lt : List AttrTypeE) (la : List ClassE) (i : Nat) : Prop := ∀ h : i < la.length, (CCond la[i].t ∧ (0 < i → cmpT la[i - 1].t.f0.data.toList la[i].t.f0.data.toList < 0)) ∧ (∀ s ∈ la[i].t.f2, InT lt s) ∧ (∀ s ∈ la[i].t.f3, InT lt s) ∧ EndsF (fstE la) (la.length + 1) la[i].t.f1
theorem fstE_eq (la : List ClassE) : fstE la = fstC (la.map (·.t)) := by
  funext s
  unfold fstE fstC
  rw [List.find?_map]
  rfl
theorem ris_at {E : Type} (nm : E → ByteArray) (l : List E) : RisS (l.map nm) ↔ ∀ i (h : i < l.length), 0 < i → cmpT (nm l[i - 1]).data.toList (nm l[i]).data.toList < 0 := by
  rw [ris_map]
  constructor
  · intro h i hi h0
    obtain ⟨j, rfl⟩ : ∃ j, i = j + 1 := ⟨i - 1, by omega⟩
    exact h j hi
  · intro h i hi
    have := h (i + 1) hi (Nat.succ_pos _)
    simpa using this
theorem gds_iff2 (lt : List AttrTypeE) (la : List ClassE) : GDs ⟨lt.map (·.t), la.map (·.t)⟩ ↔ (lt.length ≤ 40 ∧ la.length ≤ 20 ∧ (∀ i, i < lt.length → TyAt lt i) ∧ (∃ x, lt.find? (fun c => decide (c.t.f0 = clsW)) = some x ∧ x.t.f1 = 2 ∧ x.t.f2 = false) ∧ ∀ i, i < la.length → CAt lt la i) := by
  unfold GDs
  simp only [List.length_map, List.map_map]
  have r1 := ris_at (fun x : AttrTypeE => x.t.f0) lt
  have r2 := ris_at (fun x : ClassE => x.t.f0) la
  have cl : RisS (lt.map (fun x => x.t.f0)) → ((⟨clsW, 2, false⟩ : AttrTypeT) ∈ lt.map (·.t) ↔ ∃ x, lt.find? (fun c => decide (c.t.f0 = clsW)) = some x ∧ x.t.f1 = 2 ∧ x.t.f2 = false) := fun hr => by
    have nd := cmp_nodup hr
    constructor
    · intro h
      obtain ⟨e, he, het⟩ := List.mem_map.1 h
      have f1 := find_of_nodup (nm := fun x : AttrTypeE => x.t.f0) nd he
      have e2 : e.t.f0 = clsW := by rw [het]
      rw [e2] at f1
      exact ⟨e, f1, by rw [het], by rw [het]⟩
    · rintro ⟨x, hx, h1, h2⟩
      have hm := List.mem_of_find?_eq_some hx
      have hp := List.find?_some hx
      have hn : x.t.f0 = clsW := by simpa using hp
      have : x.t = ⟨clsW, 2, false⟩ := by
        rcases x with ⟨⟨f0, f1, f2⟩⟩
        simp only at hn h1 h2
        rw [hn, h1, h2]
      rw [← this]
      exact List.mem_map_of_mem hm
  constructor
  · rintro ⟨⟨l0, l1⟩, ⟨a1, a2, a3⟩, a4, a5⟩
    refine ⟨l0, l1, fun i hi h => ?_, (cl a2).1 a3, fun i hi h => ?_⟩
    · obtain ⟨g1, g2, g3⟩ := a1 _ (List.mem_map_of_mem (List.getElem_mem h))
      exact ⟨⟨g1, by omega, by omega⟩, r1.1 a2 i h⟩
    · obtain ⟨g1, ⟨g2, g3, g4⟩, ⟨g5, g6, g7⟩, g8⟩ := a4 _ (List.mem_map_of_mem (List.getElem_mem h))
      refine ⟨⟨⟨g1, by omega, by omega, g4, g7⟩, r2.1 a5 i h⟩, g3, g6, ?_⟩
      rw [fstE_eq]
      simpa using g8
  · rintro ⟨l0, l1, a1, a3, a4⟩
    have a2 : RisS (lt.map (fun x => x.t.f0)) := r1.2 fun i hi h0 => (a1 i hi hi).2 h0
    refine ⟨⟨l0, l1⟩, ⟨fun t ht => ?_, a2, (cl a2).2 a3⟩, fun c hc => ?_, r2.2 fun i hi h0 => (a4 i hi hi).1.2 h0⟩
    · obtain ⟨e, he, rfl⟩ := List.mem_map.1 ht
      obtain ⟨i, hi, rfl⟩ := List.getElem_of_mem he
      obtain ⟨⟨g1, g2, g3⟩, _⟩ := a1 i hi hi
      exact ⟨g1, by omega, by omega⟩
    · obtain ⟨e, he, rfl⟩ := List.mem_map.1 hc
      obtain ⟨i, hi, rfl⟩ := List.getElem_of_mem he
      obtain ⟨⟨⟨g1, g2, g3, g4, g5⟩, _⟩, g6, g7, g8⟩ := a4 i hi hi
      rw [fstE_eq] at g8
      exact ⟨g1, ⟨by omega, g6, g4⟩, ⟨by omega, g7, g5⟩, by simpa using g8⟩
theorem RetB.t {e : Ending} {p : Prop} (h : RetB e p) (hp : p) : e = .returned (.bool true) := by obtain ⟨b, rfl, hb⟩ := h; rw [hb.2 hp]
theorem RetB.f {e : Ending} {p : Prop} (h : RetB e p) (hp : ¬ p) : e = .returned (.bool false) := by
  obtain ⟨b, rfl, hb⟩ := h
  cases b
  · rfl
  · exact absurd (hb.1 rfl) hp
theorem callsT {P : Program} {f : FuncId} {args : Array Value} {w : World} {p : Prop} (h : Calls P f args w fun e w' => RetB e p ∧ Below w.heap.size w w') (hp : p) : Calls P f args w fun e w' => e = .returned (.bool true) ∧ Below w.heap.size w w' := h.mono fun _ _ k => ⟨k.1.t hp, k.2⟩
theorem callsF {P : Program} {f : FuncId} {args : Array Value} {w : World} {p : Prop} (h : Calls P f args w fun e w' => RetB e p ∧ Below w.heap.size w w') (hp : ¬ p) : Calls P f args w fun e w' => e = .returned (.bool false) ∧ Below w.heap.size w w' := h.mono fun _ _ k => ⟨k.1.f hp, k.2⟩
end Go.Proofs.Ytobmdeoppbjjpaa.V
