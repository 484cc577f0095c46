/- What came in, read: a change, a slice of changes. -/
import Derived.Test.YtpdnimchmgbijaaQRead
import Derived.Test.YtpdnimchmgbijaaQChT
import Derived.ProofKit
import Derived.Deep.Slices
namespace Go.Proofs.Ytpdnimchmgbijaa
open Go.ChangeShapes Go.WideShapes Go.RowKit

/-- Changes in memory, nine cells each. -/
structure DcRow (w : World) (b off : Nat) (l : List DcT) : Prop where
  z : b < w.heap.size
  c0 : ∀ i (h : i < l.length), w.cell? ⟨b, off + i * 9, none⟩ = some (.int .i64 l[i].t)
  c1 : ∀ i (h : i < l.length), w.cell? ⟨b, off + i * 9 + 1, none⟩ = some (.int .i64 l[i].o)
  c2 : ∀ i (h : i < l.length), w.cell? ⟨b, off + i * 9 + 2, none⟩ = some (.int .i64 l[i].k)
  c3 : ∀ i (h : i < l.length), w.cell? ⟨b, off + i * 9 + 3, none⟩ = some (.int .i64 l[i].u)
  c4 : ∀ i (h : i < l.length), w.cell? ⟨b, off + i * 9 + 4, none⟩ = some (.int .i64 l[i].p)
  c5 : ∀ i (h : i < l.length), w.cell? ⟨b, off + i * 9 + 5, none⟩ = some (.string l[i].pa)
  c6 : ∀ i (h : i < l.length), w.cell? ⟨b, off + i * 9 + 6, none⟩ = some (.string l[i].pt)
  c7 : ∀ i (h : i < l.length), w.cell? ⟨b, off + i * 9 + 7, none⟩ = some (.string l[i].a)
  c8 : ∀ i (h : i < l.length), w.cell? ⟨b, off + i * 9 + 8, none⟩ = some (.string l[i].x)
theorem DcRow.keep {w w1 : World} {b off : Nat} {l : List DcT} (h : DcRow w b off l) (hb : Below w.heap.size w w1) : DcRow w1 b off l :=
  ⟨Nat.lt_of_lt_of_le h.z hb.size, fun i hi => cellB hb h.z (h.c0 i hi), fun i hi => cellB hb h.z (h.c1 i hi), fun i hi => cellB hb h.z (h.c2 i hi), fun i hi => cellB hb h.z (h.c3 i hi), fun i hi => cellB hb h.z (h.c4 i hi), fun i hi => cellB hb h.z (h.c5 i hi), fun i hi => cellB hb h.z (h.c6 i hi), fun i hi => cellB hb h.z (h.c7 i hi), fun i hi => cellB hb h.z (h.c8 i hi)⟩
def SlC (w : World) (a : Option Addr) (len : Nat) (l : List DcT) : Prop := len = l.length ∧ (l = [] ∨ ∃ b off, a = some ⟨b, off, none⟩ ∧ DcRow w b off l)
theorem SlC.keep {w w1 : World} {a : Option Addr} {len : Nat} {l : List DcT} (h : SlC w a len l) (hb : Below w.heap.size w w1) : SlC w1 a len l :=
  ⟨h.1, by
    rcases h.2 with e | ⟨b, off, e, r⟩
    · exact .inl e
    · exact .inr ⟨b, off, e, r.keep hb⟩⟩
theorem SlC.at {w : World} {a : Option Addr} {len : Nat} {l : List DcT} (h : SlC w a len l) {k : Nat} (hk : k < len) : ∃ b off, a = some ⟨b, off, none⟩ ∧ DcRow w b off l := by
  rcases h.2 with e | e
  · rw [h.1, e] at hk; simp at hk
  · exact e

section
variable {H : Type} {enc : TypeId × Value → H} {w : World} {base : Nat} {sp : Nat → Bool} {held : Bool}

theorem list7 {α : Type} {l : List α} (h : l.length = 7) : ∃ a b c d e f g, l = [a, b, c, d, e, f, g] := by
  match l, h with
  | [a, b, c, d, e, f, g], _ => exact ⟨a, b, c, d, e, f, g, rfl⟩
theorem list9 {α : Type} {l : List α} (h : l.length = 9) : ∃ a b c d e f g i j, l = [a, b, c, d, e, f, g, i, j] := by
  match l, h with
  | [a, b, c, d, e, f, g, i, j], _ => exact ⟨a, b, c, d, e, f, g, i, j, rfl⟩

set_option maxRecDepth 8000 in
theorem read_stamp {n : Nat} {cs : List Value} {x : DataW H × List MemPlace} (h : DataW.trod enc Try.prog w base sp held n 33 cs = some x) :
    ∃ t o : Int, cs = [.int .i64 t, .int .i64 o] := by
  obtain ⟨xs, m, rfl, _, hlen, hx, hf⟩ := DataW.trod_struct Try.underlying33 h
  have hc : Try.prog.cellsOf 33 = 2 := by kernel_rfl
  have k3 : Try.prog.cellsOf 3 = 1 := by kernel_rfl
  obtain ⟨c0, c1, rfl⟩ := list2 (hlen.trans hc)
  obtain ⟨x0, x1, rfl⟩ := list2 hx
  have h0 : DataW.trod enc Try.prog w base sp held m 3 [c0] = some x0 := by have := hf 0 _ rfl; simpa [k3] using this
  have h1 : DataW.trod enc Try.prog w base sp held m 3 [c1] = some x1 := by have := hf 1 _ rfl; simpa [k3] using this
  obtain ⟨s, q2, _, _⟩ := DataW.trod_int Try.underlying3 h0
  obtain ⟨r, q3, _, _⟩ := DataW.trod_int Try.underlying3 h1
  simp at q2 q3
  subst q2 q3
  exact ⟨s, r, rfl⟩

set_option maxRecDepth 8000 in
theorem read_change {n : Nat} {cs : List Value} {x : DataW H × List MemPlace} (h : DataW.trod enc Try.prog w base sp held n 37 cs = some x) :
    ∃ c : DcT, cs = [.int .i64 c.t, .int .i64 c.o, .int .i64 c.k, .int .i64 c.u, .int .i64 c.p, .string c.pa, .string c.pt, .string c.a, .string c.x] ∧ c.Ok := by
  obtain ⟨xs, m, rfl, _, hlen, hx, hf⟩ := DataW.trod_struct Try.underlying37 h
  have hc : Try.prog.cellsOf 37 = 9 := by kernel_rfl
  have k3 : Try.prog.cellsOf 3 = 1 := by kernel_rfl
  have k9 : Try.prog.cellsOf 9 = 1 := by kernel_rfl
  have kS : Try.prog.cellsOf 33 = 2 := by kernel_rfl
  have kP : Try.prog.cellsOf 35 = 2 := by kernel_rfl
  obtain ⟨c0, c1, c2, c3, c4, c5, c6, c7, c8, rfl⟩ := list9 (hlen.trans hc)
  obtain ⟨x0, x1, x2, x3, x4, x5, x6, rfl⟩ := list7 hx
  have h0 : DataW.trod enc Try.prog w base sp held m 33 [c0, c1] = some x0 := by have := hf 0 _ rfl; simpa [k3, k9, kS, kP] using this
  have h1 : DataW.trod enc Try.prog w base sp held m 3 [c2] = some x1 := by have := hf 1 _ rfl; simpa [k3, k9, kS, kP] using this
  have h2 : DataW.trod enc Try.prog w base sp held m 3 [c3] = some x2 := by have := hf 2 _ rfl; simpa [k3, k9, kS, kP] using this
  have h3 : DataW.trod enc Try.prog w base sp held m 3 [c4] = some x3 := by have := hf 3 _ rfl; simpa [k3, k9, kS, kP] using this
  have h4 : DataW.trod enc Try.prog w base sp held m 35 [c5, c6] = some x4 := by have := hf 4 _ rfl; simpa [k3, k9, kS, kP] using this
  have h5 : DataW.trod enc Try.prog w base sp held m 9 [c7] = some x5 := by have := hf 5 _ rfl; simpa [k3, k9, kS, kP] using this
  have h6 : DataW.trod enc Try.prog w base sp held m 9 [c8] = some x6 := by have := hf 6 _ rfl; simpa [k3, k9, kS, kP] using this
  obtain ⟨t, o, q0⟩ := read_stamp h0
  obtain ⟨k, q1, _, _⟩ := DataW.trod_int Try.underlying3 h1
  obtain ⟨u, q2, _, _⟩ := DataW.trod_int Try.underlying3 h2
  obtain ⟨p, q3, _, _⟩ := DataW.trod_int Try.underlying3 h3
  obtain ⟨⟨pa, pt⟩, q4, ok⟩ := read_part h4
  obtain ⟨a, q5, _, wa⟩ := DataW.trod_string Try.underlying9 h5
  obtain ⟨y, q6, _, wy⟩ := DataW.trod_string Try.underlying9 h6
  simp at q0 q1 q2 q3 q4 q5 q6
  obtain ⟨rfl, rfl⟩ := q0
  obtain ⟨rfl, rfl⟩ := q4
  subst q1 q2 q3 q5 q6
  exact ⟨⟨t, o, k, u, p, pa, pt, a, y⟩, rfl, ok.a9, ok.t9, wa, wy⟩

set_option maxRecDepth 8000 in
/-- A change that came in. -/
theorem read_chg {r : Reach} {b0 : Nat} {v0 : Value} {d : DataW H} {p : List MemPlace} (hv : Value.okWide Try.prog w r b0 37 v0) (h : DataW.Trod enc Try.prog w base sp held 37 v0 d p) :
    ∃ c : DcT, v0 = .agg #[.int .i64 c.t, .int .i64 c.o, .int .i64 c.k, .int .i64 c.u, .int .i64 c.p, .string c.pa, .string c.pt, .string c.a, .string c.x] ∧ c.Ok := by
  obtain ⟨cs, rfl, hsz⟩ := okWide_struct Try.underlying37 hv
  obtain ⟨fuel, hf0⟩ := h
  obtain ⟨c, hc, ok⟩ := read_change hf0
  obtain ⟨l⟩ := cs
  have : l = _ := hc
  subst this
  exact ⟨c, rfl, ok⟩

set_option maxRecDepth 8000 in
theorem read_changes {n len cap : Nat} {a : Option Addr} {x : DataW H × List MemPlace} (h : DataW.trod enc Try.prog w base sp held n 22 [.slice a len cap] = some x) :
    ∃ l : List DcT, SlC w a len l ∧ (∀ q ∈ l, DcT.Ok q) ∧ len ≤ maxLen := by
  have hc : Try.prog.cellsOf 37 = 9 := by kernel_rfl
  rcases Go.Deep.open_slice Try.underlying22 h with ⟨hcs, _⟩ | ⟨a', len', cap', m, n', D, Pl, hcs, _, hl, hm, hmm, _, hel⟩
  · simp at hcs
    obtain ⟨rfl, rfl, rfl⟩ := hcs
    exact ⟨[], ⟨rfl, .inl rfl⟩, by simp, Nat.zero_le _⟩
  · simp at hcs
    obtain ⟨rfl, rfl, rfl⟩ := hcs
    have hlm : len ≤ m := by rw [hmm]; split <;> omega
    by_cases h0 : len = 0
    · subst h0; exact ⟨[], ⟨rfl, .inl rfl⟩, by simp, Nat.zero_le _⟩
    have hspot : a'.spot = none := by
      obtain ⟨cs', h1, h2⟩ := hel 0 (by omega)
      rw [hc] at h1
      obtain ⟨A, rfl, _⟩ := read_change h2
      have e0 := (World.cells?_some h1).2.2 0 (by omega)
      simp [Addr.add] at e0
      exact World.cell?_spot e0
    obtain ⟨b, off, spot⟩ := a'
    simp only at hspot
    subst hspot
    have hA : ∀ i, i < len → ∃ A : DcT, A.Ok ∧ (∀ j v, [Value.int .i64 A.t, .int .i64 A.o, .int .i64 A.k, .int .i64 A.u, .int .i64 A.p, .string A.pa, .string A.pt, .string A.a, .string A.x][j]? = some v → w.cell? ⟨b, off + i * 9 + j, none⟩ = some v) ∧ b < w.heap.size := by
      intro i hi
      obtain ⟨cs', h1, h2⟩ := hel i (by omega)
      rw [hc, addr_add] at h1
      obtain ⟨A, rfl, hok⟩ := read_change h2
      have h3 := (World.cells?_some h1).2.2
      refine ⟨A, hok, fun j v hj => ?_, ?_⟩
      · have hlt : j < 9 := by
          have := (List.getElem?_eq_some_iff.1 hj).1
          simpa using this
        have e := h3 j (by omega)
        rw [addr_add] at e
        rw [e]
        exact hj
      · have e0 := h3 0 (by omega)
        rw [addr_add] at e0
        exact World.block_lt_of_cell? w ⟨b, off + i * 9 + 0, none⟩ e0
    obtain ⟨f, hf⟩ := @Go.Deep.choose_lt DcT ⟨⟨0, 0, 0, 0, 0, ⟨#[]⟩, ⟨#[]⟩, ⟨#[]⟩, ⟨#[]⟩⟩⟩ len (fun i A => A.Ok ∧ (∀ j v, [Value.int .i64 A.t, .int .i64 A.o, .int .i64 A.k, .int .i64 A.u, .int .i64 A.p, .string A.pa, .string A.pt, .string A.a, .string A.x][j]? = some v → w.cell? ⟨b, off + i * 9 + j, none⟩ = some v) ∧ b < w.heap.size) hA
    have hg : ∀ i (h : i < ((List.range len).map f).length), ((List.range len).map f)[i] = f i ∧ i < len := fun i h => ⟨by simp, by simpa using h⟩
    refine ⟨(List.range len).map f, ⟨by simp, .inr ⟨b, off, rfl, (hf 0 (by omega)).2.2, ?_, ?_, ?_, ?_, ?_, ?_, ?_, ?_, ?_⟩⟩, ?_, by omega⟩
    · intro i hi; obtain ⟨e, h⟩ := hg i hi; rw [e]; exact (hf i h).2.1 0 _ rfl
    · intro i hi; obtain ⟨e, h⟩ := hg i hi; rw [e]; exact (hf i h).2.1 1 _ rfl
    · intro i hi; obtain ⟨e, h⟩ := hg i hi; rw [e]; exact (hf i h).2.1 2 _ rfl
    · intro i hi; obtain ⟨e, h⟩ := hg i hi; rw [e]; exact (hf i h).2.1 3 _ rfl
    · intro i hi; obtain ⟨e, h⟩ := hg i hi; rw [e]; exact (hf i h).2.1 4 _ rfl
    · intro i hi; obtain ⟨e, h⟩ := hg i hi; rw [e]; exact (hf i h).2.1 5 _ rfl
    · intro i hi; obtain ⟨e, h⟩ := hg i hi; rw [e]; exact (hf i h).2.1 6 _ rfl
    · intro i hi; obtain ⟨e, h⟩ := hg i hi; rw [e]; exact (hf i h).2.1 7 _ rfl
    · intro i hi; obtain ⟨e, h⟩ := hg i hi; rw [e]; exact (hf i h).2.1 8 _ rfl
    · intro q hq
      simp at hq
      obtain ⟨i, hi, rfl⟩ := hq
      exact (hf i hi).1

set_option maxRecDepth 8000 in
/-- A slice of changes that came in. -/
theorem read_log {r : Reach} {b0 : Nat} {v0 : Value} {d : DataW H} {p : List MemPlace} (hv : Value.okWide Try.prog w r b0 22 v0) (h : DataW.Trod enc Try.prog w base sp held 22 v0 d p) :
    ∃ (l : List DcT) (a : Option Addr) (len cap : Nat), v0 = .slice a len cap ∧ SlC w a len l ∧ (∀ q ∈ l, DcT.Ok q) ∧ len ≤ maxLen := by
  obtain ⟨fuel, hf0⟩ := h
  obtain ⟨a, len, cap, rfl⟩ := okWide_slice Try.underlying22 hv
  obtain ⟨l, h1, h2, h3⟩ := read_changes hf0
  exact ⟨l, a, len, cap, rfl, h1, h2, h3⟩
end
end Go.Proofs.Ytpdnimchmgbijaa
