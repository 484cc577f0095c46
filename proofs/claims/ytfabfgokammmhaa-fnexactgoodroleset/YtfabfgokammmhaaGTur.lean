/- (impl.graph[string]).turned. -/
import Derived.Test.YtfabfgokammmhaaGJoi
import Derived.Test.YtfabfgokammmhaaGGe
import Derived.Test.YtfabfgokammmhaaGPur
namespace Go.Proofs.Ytfabfgokammmhaa
open Go.RowKit Go.Maps

theorem KR.notMap {α : Type} {P : Program} {k : TypeId} {enc : α → Value} {w : World} {b r n cnt : Nat} {m : α → Option Value} {done : α → Prop} (h : KR P k enc w b r n m done cnt) : ∀ e c, w.heap[r]? ≠ some (.map e c) := fun e c hx => by
  obtain ⟨D, left, ⟨_, _, _, _, _, _, _, _, _, x5, _⟩, _⟩ := h
  rw [x5] at hx; cases hx
theorem topF {tab : Bs → Option Nat} {x : Bs} {v : Value} (h : topM tab x = some v) : ∃ b, tab x = some b ∧ v = .map (some b) := by
  unfold topM at h
  simp only [Option.map_eq_some_iff] at h
  obtain ⟨b, h1, h2⟩ := h
  exact ⟨b, h1, h2.symm⟩
theorem setF_some {es : List (Bs × Bs)} {a x : Bs} {v : Value} (h : setF es a x = some v) : (a, x) ∈ es ∧ v = .agg #[] := by
  unfold setF at h
  split at h
  · next hx => exact ⟨hx, (Option.some.inj h).symm⟩
  · cases h
theorem setF_isSome {es : List (Bs × Bs)} {a x : Bs} (h : (a, x) ∈ es) : (setF es a x).isSome = true := by
  unfold setF; rw [if_pos h]; rfl
open Classical in
theorem flip_le {es es' : List (Bs × Bs)} (hn : es'.Nodup) (h : ∀ x y, (x, y) ∈ es' → (y, x) ∈ es) : es'.length ≤ es.length := by
  have := nodup_le es' (es.map fun p => (p.2, p.1)) hn (fun p hp => List.mem_map.2 ⟨(p.2, p.1), h p.1 p.2 hp, rfl⟩)
  simpa using this

end Go.Proofs.Ytfabfgokammmhaa
