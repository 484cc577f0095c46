/- WRead, one behind the other. -/
import Derived.Test.YthemcakenammdaaGreatDoorJ14
import Derived.ProofKit
import Derived.Deep.Slices
/- WRead, ported from seat 1a. -/
namespace Go.Proofs.YthemcakenammdaaGreatDoor.V
set_option maxRecDepth 100000
open Go.ChangeShapes Go.WideShapes Go.RowKit

section
variable {H : Type} {enc : TypeId × Value → H} {w : World} {base : Nat} {sp : Nat → Bool} {held : Bool}

theorem list4 {α : Type} {l : List α} (h : l.length = 4) : ∃ a b c d, l = [a, b, c, d] := by
  match l, h with
  | [a, b, c, d], _ => exact ⟨a, b, c, d, rfl⟩
theorem list7 {α : Type} {l : List α} (h : l.length = 7) : ∃ a b c d e f g, l = [a, b, c, d, e, f, g] := by
  match l, h with
  | [a, b, c, d, e, f, g], _ => exact ⟨a, b, c, d, e, f, g, rfl⟩

theorem addr_add (b off k : Nat) : (⟨b, off, none⟩ : Addr).add k = ⟨b, off + k, none⟩ := by
  unfold Addr.add; split <;> simp_all

theorem read_atom {n : Nat} {cs : List Value} {x : DataW H × List MemPlace} (h : DataW.trod enc Tryz.prog w base sp held n 23 cs = some x) :
    ∃ A : AtomT, cs = [.int .i64 A.x, .int .i64 A.n, .string A.t, .string A.y] ∧ A.Ok := by
  obtain ⟨xs, m, rfl, _, hlen, hx, hf⟩ := DataW.trod_struct Tryz.underlying23 h
  have hc : Tryz.prog.cellsOf 23 = 4 := by kernel_rfl
  have k3 : Tryz.prog.cellsOf 3 = 1 := by kernel_rfl
  have k9 : Tryz.prog.cellsOf 9 = 1 := by kernel_rfl
  obtain ⟨c0, c1, c2, c3, rfl⟩ := list4 (hlen.trans hc)
  obtain ⟨x0, x1, x2, x3, rfl⟩ := list4 hx
  have h0 : DataW.trod enc Tryz.prog w base sp held m 3 [c0] = some x0 := by have := hf 0 _ rfl; simpa [k3] using this
  have h1 : DataW.trod enc Tryz.prog w base sp held m 3 [c1] = some x1 := by have := hf 1 _ rfl; simpa [k3] using this
  have h2 : DataW.trod enc Tryz.prog w base sp held m 9 [c2] = some x2 := by have := hf 2 _ rfl; simpa [k9] using this
  have h3 : DataW.trod enc Tryz.prog w base sp held m 9 [c3] = some x3 := by have := hf 3 _ rfl; simpa [k9] using this
  obtain ⟨a, q0, _, _⟩ := DataW.trod_int Tryz.underlying3 h0
  obtain ⟨b, q1, _, wb⟩ := DataW.trod_int Tryz.underlying3 h1
  obtain ⟨s, q2, _, ws⟩ := DataW.trod_string Tryz.underlying9 h2
  obtain ⟨r, q3, _, wr⟩ := DataW.trod_string Tryz.underlying9 h3
  simp at q0 q1 q2 q3
  subst q0 q1 q2 q3
  refine ⟨⟨a, b, s, r⟩, rfl, ?_, ?_, ws, wr⟩
  · have := wb
    simp [Lit.wf, IntKind.min, IntKind.max, IntKind.signed, IntKind.bits] at this
    show _ ≤ b
    omega
  · have := wb
    simp [Lit.wf, IntKind.min, IntKind.max, IntKind.signed, IntKind.bits] at this
    show b ≤ _
    omega

theorem read_atoms {n len cap : Nat} {a : Option Addr} {x : DataW H × List MemPlace} (h : DataW.trod enc Tryz.prog w base sp held n 24 [.slice a len cap] = some x) :
    ∃ l : List AtomT, SlA w a len l ∧ (∀ q ∈ l, AtomT.Ok q) ∧ len ≤ maxLen := by
  have hc : Tryz.prog.cellsOf 23 = 4 := by kernel_rfl
  rcases Go.Deep.open_slice Tryz.underlying24 h with ⟨hcs, _⟩ | ⟨a', len', cap', m, n', D, Pl, hcs, _, hl, hm, hmm, _, hel⟩
  · simp at hcs
    obtain ⟨rfl, rfl, rfl⟩ := hcs
    exact ⟨[], ⟨rfl, .inl rfl⟩, by simp, Nat.zero_le _⟩
  · simp at hcs
    obtain ⟨rfl, rfl, rfl⟩ := hcs
    have hlm : len ≤ m := by rw [hmm]; split <;> omega
    by_cases h0 : len = 0
    · subst h0; exact ⟨[], ⟨rfl, .inl rfl⟩, by simp, Nat.zero_le _⟩
    have hspot : a'.spot = none := by
      obtain ⟨cs', h1, h2⟩ := hel 0 (by omega)
      rw [hc] at h1
      obtain ⟨A, rfl, _⟩ := read_atom h2
      have e0 := (World.cells?_some h1).2.2 0 (by omega)
      simp [Addr.add] at e0
      exact World.cell?_spot e0
    obtain ⟨b, off, spot⟩ := a'
    simp only at hspot
    subst hspot
    have hA : ∀ i, i < len → ∃ A : AtomT, A.Ok ∧ AtomIn w b (off + i * 4) A ∧ b < w.heap.size := by
      intro i hi
      obtain ⟨cs', h1, h2⟩ := hel i (by omega)
      rw [hc, addr_add] at h1
      obtain ⟨A, rfl, hok⟩ := read_atom h2
      have h3 := (World.cells?_some h1).2.2
      have e0 := h3 0 (by omega)
      have e1 := h3 1 (by omega)
      have e2 := h3 2 (by omega)
      have e3 := h3 3 (by omega)
      rw [addr_add] at e0 e1 e2 e3
      exact ⟨A, hok, ⟨e0, e1, e2, e3⟩, World.block_lt_of_cell? w ⟨b, off + i * 4 + 0, none⟩ e0⟩
    obtain ⟨f, hf⟩ := @Go.Deep.choose_lt AtomT ⟨⟨0, 0, ⟨#[]⟩, ⟨#[]⟩⟩⟩ len (fun i A => A.Ok ∧ AtomIn w b (off + i * 4) A ∧ b < w.heap.size) hA
    refine ⟨(List.range len).map f, ⟨by simp, .inr ⟨b, off, rfl, (hf 0 (by omega)).2.2, fun i hi => ?_⟩⟩, ?_, by omega⟩
    · simp at hi
      have := (hf i hi).2.1
      simpa using this
    · intro q hq
      simp at hq
      obtain ⟨i, hi, rfl⟩ := hq
      exact (hf i hi).1

theorem read_strings {n len cap : Nat} {a : Option Addr} {x : DataW H × List MemPlace} (h : DataW.trod enc Tryz.prog w base sp held n 25 [.slice a len cap] = some x) :
    ∃ l : List ByteArray, SlS w a len l ∧ (∀ q ∈ l, ByteArray.size q ≤ maxLen) ∧ len ≤ maxLen := by
  have hc : Tryz.prog.cellsOf 9 = 1 := by kernel_rfl
  rcases Go.Deep.open_slice Tryz.underlying25 h with ⟨hcs, _⟩ | ⟨a', len', cap', m, n', D, Pl, hcs, _, hl, hm, hmm, _, hel⟩
  · simp at hcs
    obtain ⟨rfl, rfl, rfl⟩ := hcs
    exact ⟨[], ⟨rfl, .inl rfl⟩, by simp, Nat.zero_le _⟩
  · simp at hcs
    obtain ⟨rfl, rfl, rfl⟩ := hcs
    have hlm : len ≤ m := by rw [hmm]; split <;> omega
    by_cases h0 : len = 0
    · subst h0; exact ⟨[], ⟨rfl, .inl rfl⟩, by simp, Nat.zero_le _⟩
    have hspot : a'.spot = none := by
      obtain ⟨cs', h1, h2⟩ := hel 0 (by omega)
      rw [hc] at h1
      obtain ⟨s, rfl, _, _⟩ := DataW.trod_string Tryz.underlying9 h2
      have e0 := (World.cells?_some h1).2.2 0 (by omega)
      simp [Addr.add] at e0
      exact World.cell?_spot e0
    obtain ⟨b, off, spot⟩ := a'
    simp only at hspot
    subst hspot
    have hA : ∀ i, i < len → ∃ A : ByteArray, A.size ≤ maxLen ∧ w.cell? ⟨b, off + i, none⟩ = some (.string A) ∧ b < w.heap.size := by
      intro i hi
      obtain ⟨cs', h1, h2⟩ := hel i (by omega)
      rw [hc, addr_add, Nat.mul_one] at h1
      obtain ⟨s, rfl, _, hs⟩ := DataW.trod_string Tryz.underlying9 h2
      have e0 := (World.cells?_some h1).2.2 0 (by omega)
      rw [addr_add] at e0
      exact ⟨s, hs, e0, World.block_lt_of_cell? w ⟨b, off + i + 0, none⟩ e0⟩
    obtain ⟨f, hf⟩ := @Go.Deep.choose_lt ByteArray ⟨⟨#[]⟩⟩ len (fun i A => A.size ≤ maxLen ∧ w.cell? ⟨b, off + i, none⟩ = some (.string A) ∧ b < w.heap.size) hA
    refine ⟨(List.range len).map f, ⟨by simp, .inr ⟨b, off, rfl, (hf 0 (by omega)).2.2, fun i hi => ?_⟩⟩, ?_, by omega⟩
    · simp at hi
      have := (hf i hi).2.1
      simpa using this
    · intro q hq
      simp at hq
      obtain ⟨i, hi, rfl⟩ := hq
      exact (hf i hi).1

/-- A value that came in. -/
theorem read_value {r : Reach} {b0 : Nat} {v0 : Value} {d : DataW H} {p : List MemPlace} (hv : Value.okWide Tryz.prog w r b0 27 v0) (h : DataW.Trod enc Tryz.prog w base sp held 27 v0 d p) :
    ∃ (v : ValT) (a1 a2 : Option Addr) (l1 c1 l2 c2 : Nat), v0 = .agg #[.int .i64 v.k, .int .i64 v.a.x, .int .i64 v.a.n, .string v.a.t, .string v.a.y, .slice a1 l1 c1, .slice a2 l2 c2] ∧ v.Ok ∧
      SlA w a1 l1 v.items ∧ SlS w a2 l2 v.names ∧ l1 ≤ maxLen ∧ l2 ≤ maxLen := by
  have hc : Tryz.prog.cellsOf 27 = 7 := by kernel_rfl
  have k3 : Tryz.prog.cellsOf 3 = 1 := by kernel_rfl
  have k36 : Tryz.prog.cellsOf 23 = 4 := by kernel_rfl
  have k42 : Tryz.prog.cellsOf 24 = 1 := by kernel_rfl
  have k43 : Tryz.prog.cellsOf 25 = 1 := by kernel_rfl
  obtain ⟨cs, rfl, hsz⟩ := okWide_struct Tryz.underlying27 hv
  obtain ⟨fuel, hf0⟩ := h
  obtain ⟨xs, m, rfl, _, hlen, hx, hf⟩ := DataW.trod_struct Tryz.underlying27 hf0
  obtain ⟨l⟩ := cs
  obtain ⟨c0, c1, c2, c3, c4, c5, c6, rfl⟩ := list7 (show l.length = 7 from (by simpa using hsz.trans hc))
  obtain ⟨x0, x1, x2, x3, rfl⟩ := list4 hx
  have h0 : DataW.trod enc Tryz.prog w base sp held m 3 [c0] = some x0 := by have := hf 0 _ rfl; simpa [k3, Value.cells] using this
  have h1 : DataW.trod enc Tryz.prog w base sp held m 23 [c1, c2, c3, c4] = some x1 := by have := hf 1 _ rfl; simpa [k36, Value.cells] using this
  have h2 : DataW.trod enc Tryz.prog w base sp held m 24 [c5] = some x2 := by have := hf 2 _ rfl; simpa [k42, Value.cells] using this
  have h3 : DataW.trod enc Tryz.prog w base sp held m 25 [c6] = some x3 := by have := hf 3 _ rfl; simpa [k43, Value.cells] using this
  obtain ⟨k, q0, _, _⟩ := DataW.trod_int Tryz.underlying3 h0
  obtain ⟨A, q1, hok⟩ := read_atom h1
  simp at q0 q1
  subst q0
  obtain ⟨rfl, rfl, rfl, rfl⟩ := q1
  have g2 : ∃ a l c, c5 = .slice a l c := by
    rcases Go.Deep.open_slice Tryz.underlying24 h2 with ⟨hcs, _⟩ | ⟨a', len', cap', _, _, _, _, hcs, _⟩
    · simp at hcs; exact ⟨_, _, _, hcs⟩
    · simp at hcs; exact ⟨_, _, _, hcs⟩
  have g3 : ∃ a l c, c6 = .slice a l c := by
    rcases Go.Deep.open_slice Tryz.underlying25 h3 with ⟨hcs, _⟩ | ⟨a', len', cap', _, _, _, _, hcs, _⟩
    · simp at hcs; exact ⟨_, _, _, hcs⟩
    · simp at hcs; exact ⟨_, _, _, hcs⟩
  obtain ⟨a1, l1, e1, rfl⟩ := g2
  obtain ⟨a2, l2, e2, rfl⟩ := g3
  obtain ⟨items, s1, o1, m1⟩ := read_atoms h2
  obtain ⟨names, s2, o2, m2⟩ := read_strings h3
  exact ⟨⟨k, A, items, names⟩, a1, a2, l1, e1, l2, e2, rfl, ⟨hok, o1, o2⟩, s1, s2, m1, m2⟩
end
end Go.Proofs.YthemcakenammdaaGreatDoor.V
