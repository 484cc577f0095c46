/- What came in, read: a part, a slice of parts. -/
import Derived.Test.YthmjefmljcdpcaaQRow
import Derived.ProofKit
import Derived.Deep.Slices
namespace Go.Proofs.Ythmjefmljcdpcaa
open Go.ChangeShapes Go.WideShapes Go.RowKit

section
variable {H : Type} {enc : TypeId × Value → H} {w : World} {base : Nat} {sp : Nat → Bool} {held : Bool}

theorem list2 {α : Type} {l : List α} (h : l.length = 2) : ∃ a b, l = [a, b] := by
  match l, h with
  | [a, b], _ => exact ⟨a, b, rfl⟩

theorem addr_add (b off k : Nat) : (⟨b, off, none⟩ : Addr).add k = ⟨b, off + k, none⟩ := by
  unfold Addr.add; split <;> simp_all

set_option maxRecDepth 8000 in
theorem read_part {n : Nat} {cs : List Value} {x : DataW H × List MemPlace} (h : DataW.trod enc Try.prog w base sp held n 61 cs = some x) :
    ∃ A : PartT, cs = [.string A.a, .string A.t] ∧ A.Ok := by
  obtain ⟨xs, m, rfl, _, hlen, hx, hf⟩ := DataW.trod_struct Try.underlying61 h
  have hc : Try.prog.cellsOf 61 = 2 := by kernel_rfl
  have k9 : Try.prog.cellsOf 9 = 1 := by kernel_rfl
  obtain ⟨c0, c1, rfl⟩ := list2 (hlen.trans hc)
  obtain ⟨x0, x1, rfl⟩ := list2 hx
  have h0 : DataW.trod enc Try.prog w base sp held m 9 [c0] = some x0 := by have := hf 0 _ rfl; simpa [k9] using this
  have h1 : DataW.trod enc Try.prog w base sp held m 9 [c1] = some x1 := by have := hf 1 _ rfl; simpa [k9] using this
  obtain ⟨s, q2, _, ws⟩ := DataW.trod_string Try.underlying9 h0
  obtain ⟨r, q3, _, wr⟩ := DataW.trod_string Try.underlying9 h1
  simp at q2 q3
  subst q2 q3
  exact ⟨⟨s, r⟩, rfl, ws, wr⟩

set_option maxRecDepth 8000 in
theorem read_parts {n len cap : Nat} {a : Option Addr} {x : DataW H × List MemPlace} (h : DataW.trod enc Try.prog w base sp held n 22 [.slice a len cap] = some x) :
    ∃ l : List PartT, SlP w a len l ∧ (∀ q ∈ l, PartT.Ok q) ∧ len ≤ maxLen := by
  have hc : Try.prog.cellsOf 61 = 2 := by kernel_rfl
  rcases Go.Deep.open_slice Try.underlying22 h with ⟨hcs, _⟩ | ⟨a', len', cap', m, n', D, Pl, hcs, _, hl, hm, hmm, _, hel⟩
  · simp at hcs
    obtain ⟨rfl, rfl, rfl⟩ := hcs
    exact ⟨[], ⟨rfl, .inl rfl⟩, by simp, Nat.zero_le _⟩
  · simp at hcs
    obtain ⟨rfl, rfl, rfl⟩ := hcs
    have hlm : len ≤ m := by rw [hmm]; split <;> omega
    by_cases h0 : len = 0
    · subst h0; exact ⟨[], ⟨rfl, .inl rfl⟩, by simp, Nat.zero_le _⟩
    have hspot : a'.spot = none := by
      obtain ⟨cs', h1, h2⟩ := hel 0 (by omega)
      rw [hc] at h1
      obtain ⟨A, rfl, _⟩ := read_part h2
      have e0 := (World.cells?_some h1).2.2 0 (by omega)
      simp [Addr.add] at e0
      exact World.cell?_spot e0
    obtain ⟨b, off, spot⟩ := a'
    simp only at hspot
    subst hspot
    have hA : ∀ i, i < len → ∃ A : PartT, A.Ok ∧ (w.cell? ⟨b, off + i * 2, none⟩ = some (.string A.a) ∧ w.cell? ⟨b, off + i * 2 + 1, none⟩ = some (.string A.t)) ∧ b < w.heap.size := by
      intro i hi
      obtain ⟨cs', h1, h2⟩ := hel i (by omega)
      rw [hc, addr_add] at h1
      obtain ⟨A, rfl, hok⟩ := read_part h2
      have h3 := (World.cells?_some h1).2.2
      have e0 := h3 0 (by omega)
      have e1 := h3 1 (by omega)
      rw [addr_add] at e0 e1
      exact ⟨A, hok, ⟨e0, e1⟩, World.block_lt_of_cell? w ⟨b, off + i * 2 + 0, none⟩ e0⟩
    obtain ⟨f, hf⟩ := @Go.Deep.choose_lt PartT ⟨⟨⟨#[]⟩, ⟨#[]⟩⟩⟩ len (fun i A => A.Ok ∧ (w.cell? ⟨b, off + i * 2, none⟩ = some (.string A.a) ∧ w.cell? ⟨b, off + i * 2 + 1, none⟩ = some (.string A.t)) ∧ b < w.heap.size) hA
    refine ⟨(List.range len).map f, ⟨by simp, .inr ⟨b, off, rfl, (hf 0 (by omega)).2.2, fun i hi => ?_, fun i hi => ?_⟩⟩, ?_, by omega⟩
    · simp at hi
      have := (hf i hi).2.1.1
      simpa using this
    · simp at hi
      have := (hf i hi).2.1.2
      simpa using this
    · intro q hq
      simp at hq
      obtain ⟨i, hi, rfl⟩ := hq
      exact (hf i hi).1

set_option maxRecDepth 8000 in
/-- A slice of parts that came in. -/
theorem read_name {r : Reach} {b0 : Nat} {v0 : Value} {d : DataW H} {p : List MemPlace} (hv : Value.okWide Try.prog w r b0 22 v0) (h : DataW.Trod enc Try.prog w base sp held 22 v0 d p) :
    ∃ (l : List PartT) (a : Option Addr) (len cap : Nat), v0 = .slice a len cap ∧ SlP w a len l ∧ (∀ q ∈ l, PartT.Ok q) ∧ len ≤ maxLen := by
  obtain ⟨fuel, hf0⟩ := h
  obtain ⟨a, len, cap, rfl⟩ := okWide_slice Try.underlying22 hv
  obtain ⟨l, h1, h2, h3⟩ := read_parts hf0
  exact ⟨l, a, len, cap, rfl, h1, h2, h3⟩
end
end Go.Proofs.Ythmjefmljcdpcaa
