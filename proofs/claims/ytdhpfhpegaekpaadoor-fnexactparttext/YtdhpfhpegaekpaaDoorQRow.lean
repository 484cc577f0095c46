/- Slices of strings and of parts (two strings each) in memory. -/
import Derived.Test.YtdhpfhpegaekpaaDoorQKept
import Derived.Test.YtdhpfhpegaekpaaDoorQText
import Derived.Laws.Rows
import Derived.Laws.MakeOwn
namespace Go.Proofs.YtdhpfhpegaekpaaDoor
open Go.RowKit

structure StrRow (w : World) (b off : Nat) (l : List ByteArray) : Prop where
  z : b < w.heap.size
  c : ∀ i (h : i < l.length), w.cell? ⟨b, off + i, none⟩ = some (.string l[i])
theorem StrRow.keep {w w1 : World} {b off : Nat} {l : List ByteArray} (h : StrRow w b off l) (hb : Below w.heap.size w w1) : StrRow w1 b off l :=
  ⟨Nat.lt_of_lt_of_le h.z hb.size, fun i hi => cellB hb h.z (h.c i hi)⟩
def SlS (w : World) (a : Option Addr) (len : Nat) (l : List ByteArray) : Prop := len = l.length ∧ (l = [] ∨ ∃ b off, a = some ⟨b, off, none⟩ ∧ StrRow w b off l)
theorem SlS.keep {w w1 : World} {a : Option Addr} {len : Nat} {l : List ByteArray} (h : SlS w a len l) (hb : Below w.heap.size w w1) : SlS w1 a len l :=
  ⟨h.1, by
    rcases h.2 with e | ⟨b, off, e, r⟩
    · exact .inl e
    · exact .inr ⟨b, off, e, r.keep hb⟩⟩
theorem SlS.at {w : World} {a : Option Addr} {len : Nat} {l : List ByteArray} (h : SlS w a len l) {k : Nat} (hk : k < len) : ∃ b off, a = some ⟨b, off, none⟩ ∧ StrRow w b off l := by
  rcases h.2 with e | e
  · rw [h.1, e] at hk; simp at hk
  · exact e
def RowIs (w : World) (b : Nat) (C : Array Value) (T : TypeId) : Prop := w.heap[b]? = some (.cells C T (0, 0))
theorem RowIs.cell {w : World} {b : Nat} {C : Array Value} {T : TypeId} (h : RowIs w b C T) (o : Nat) : w.cell? ⟨b, o, none⟩ = C[o]? := by
  unfold RowIs at h; simp [World.cell?, h]
theorem RowIs.froz {w : World} {b : Nat} {C : Array Value} {T : TypeId} (h : RowIs w b C T) (o : Nat) : w.frozen? ⟨b, o, none⟩ = false := by
  unfold RowIs at h; simp [World.frozen?, h]
theorem RowIs.lt {w : World} {b : Nat} {C : Array Value} {T : TypeId} (h : RowIs w b C T) : b < w.heap.size := by
  unfold RowIs at h; exact (Array.getElem?_eq_some_iff.1 h).1
theorem RowIs.keep {w w1 : World} {b : Nat} {C : Array Value} {T : TypeId} (h : RowIs w b C T) (hb : Below w.heap.size w w1) : RowIs w1 b C T := by
  have hl := h.lt
  unfold RowIs at *; rw [hb.block b hl]; exact h
theorem RowIs.set {w : World} {b : Nat} {C : Array Value} {T : TypeId} (h : RowIs w b C T) (o : Nat) (v : Value) : RowIs (w.setCell ⟨b, o, none⟩ v) b (C.setIfInBounds o v) T :=
  heap_setCell_same w b o C T v h
theorem RowIs.new (w : World) (C : Array Value) (T : TypeId) : RowIs (w.alloc (.cells C T)) w.heap.size C T := by
  unfold RowIs; show (w.heap.push _)[w.heap.size]? = _; simp
def FilledS (C : Array Value) (l : List ByteArray) (k : Nat) : Prop := ∀ i (h : i < l.length), i < k → C[i]? = some (.string l[i])
theorem FilledS.set {C : Array Value} {l : List ByteArray} {k : Nat} (h : FilledS C l k) (hk : k < l.length) (hC : C.size = l.length) : FilledS (C.setIfInBounds k (.string l[k])) l (k + 1) := by
  intro i hi hik
  by_cases e : i = k
  · subst e
    have s0 : i < C.size := by omega
    simp [s0]
  · have := h i hi (by omega)
    rw [Array.getElem?_setIfInBounds, if_neg (by omega)]
    exact this
theorem FilledS.row {w : World} {b : Nat} {C : Array Value} {T : TypeId} {l : List ByteArray} (h : FilledS C l l.length) (hr : RowIs w b C T) : StrRow w b 0 l :=
  ⟨hr.lt, fun i hi => by rw [Nat.zero_add, hr.cell]; exact h i hi hi⟩
theorem cell_setOther {w : World} {b b' o o' : Nat} (v : Value) (h : b ≠ b') : (w.setCell ⟨b', o', none⟩ v).cell? ⟨b, o, none⟩ = w.cell? ⟨b, o, none⟩ :=
  World.cell?_of_block (heap_setCell_other w ⟨b', o', none⟩ b v h)
theorem StrRow.setOther {w : World} {b off : Nat} {l : List ByteArray} (hr : StrRow w b off l) {b' o' : Nat} (v : Value) (h : b ≠ b') : StrRow (w.setCell ⟨b', o', none⟩ v) b off l :=
  ⟨by simpa [World.setCell] using hr.z, fun i hi => by rw [cell_setOther v h]; exact hr.c i hi⟩
theorem RowIs.setOther {w : World} {b : Nat} {C : Array Value} {T : TypeId} (h : RowIs w b C T) {b' o' : Nat} (u : Value) (hn : b ≠ b') : RowIs (w.setCell ⟨b', o', none⟩ u) b C T := by
  unfold RowIs at *; rw [heap_setCell_other w ⟨b', o', none⟩ b u hn]; exact h
theorem RowIs.at {w : World} {b : Nat} {C : Array Value} {T : TypeId} (h : RowIs w b C T) {o : Nat} {v : Value} (e : C[o]? = some v) : w.cell? ⟨b, o, none⟩ = some v := by rw [h.cell]; exact e
theorem undrew {w w' : World} (h : Below w.drew.heap.size w.drew w') : Below w.heap.size w w' := ⟨h.os, h.tape, h.output, h.size, h.block⟩

/-- A part: its Attr and its Text. -/
structure PartT where
  a : ByteArray
  t : ByteArray
deriving DecidableEq
structure PartT.Ok (p : PartT) : Prop where
  a9 : p.a.size ≤ maxLen
  t9 : p.t.size ≤ maxLen
structure PartRow (w : World) (b off : Nat) (l : List PartT) : Prop where
  z : b < w.heap.size
  c0 : ∀ i (h : i < l.length), w.cell? ⟨b, off + i * 2, none⟩ = some (.string l[i].a)
  c1 : ∀ i (h : i < l.length), w.cell? ⟨b, off + i * 2 + 1, none⟩ = some (.string l[i].t)
theorem PartRow.keep {w w1 : World} {b off : Nat} {l : List PartT} (h : PartRow w b off l) (hb : Below w.heap.size w w1) : PartRow w1 b off l :=
  ⟨Nat.lt_of_lt_of_le h.z hb.size, fun i hi => cellB hb h.z (h.c0 i hi), fun i hi => cellB hb h.z (h.c1 i hi)⟩
def SlP (w : World) (a : Option Addr) (len : Nat) (l : List PartT) : Prop := len = l.length ∧ (l = [] ∨ ∃ b off, a = some ⟨b, off, none⟩ ∧ PartRow w b off l)
theorem SlP.keep {w w1 : World} {a : Option Addr} {len : Nat} {l : List PartT} (h : SlP w a len l) (hb : Below w.heap.size w w1) : SlP w1 a len l :=
  ⟨h.1, by
    rcases h.2 with e | ⟨b, off, e, r⟩
    · exact .inl e
    · exact .inr ⟨b, off, e, r.keep hb⟩⟩
theorem SlP.at {w : World} {a : Option Addr} {len : Nat} {l : List PartT} (h : SlP w a len l) {k : Nat} (hk : k < len) : ∃ b off, a = some ⟨b, off, none⟩ ∧ PartRow w b off l := by
  rcases h.2 with e | e
  · rw [h.1, e] at hk; simp at hk
  · exact e
theorem PartRow.setOther {w : World} {b off : Nat} {l : List PartT} (hr : PartRow w b off l) {b' o' : Nat} (v : Value) (h : b ≠ b') : PartRow (w.setCell ⟨b', o', none⟩ v) b off l :=
  ⟨by simpa [World.setCell] using hr.z, fun i hi => by rw [cell_setOther v h]; exact hr.c0 i hi, fun i hi => by rw [cell_setOther v h]; exact hr.c1 i hi⟩
/-- The first k parts of l lie in C. -/
def FilledP (C : Array Value) (l : List PartT) (k : Nat) : Prop :=
  ∀ i (h : i < l.length), i < k → C[i * 2]? = some (.string l[i].a) ∧ C[i * 2 + 1]? = some (.string l[i].t)
def set2 (C : Array Value) (k : Nat) (p : PartT) : Array Value := (C.setIfInBounds (k * 2) (.string p.a)).setIfInBounds (k * 2 + 1) (.string p.t)
theorem size_set2 (C : Array Value) (k : Nat) (p : PartT) : (set2 C k p).size = C.size := by simp [set2]
theorem FilledP.set {C : Array Value} {l : List PartT} {k : Nat} (h : FilledP C l k) (hk : k < l.length) (hC : C.size = l.length * 2) : FilledP (set2 C k l[k]) l (k + 1) := by
  intro i hi hik
  unfold set2
  by_cases e : i = k
  · subst e
    have s0 : i * 2 < C.size := by omega
    have s1 : i * 2 + 1 < C.size := by omega
    simp [s0, s1]
  · have := h i hi (by omega)
    simp only [Array.getElem?_setIfInBounds]
    repeat rw [if_neg (by omega)]
    exact this
theorem FilledP.row {w : World} {b : Nat} {C : Array Value} {T : TypeId} {l : List PartT} (h : FilledP C l l.length) (hr : RowIs w b C T) : PartRow w b 0 l :=
  ⟨hr.lt, fun i hi => by rw [Nat.zero_add, hr.cell]; exact (h i hi hi).1, fun i hi => by rw [Nat.zero_add, hr.cell]; exact (h i hi hi).2⟩
def RetB (e : Ending) (p : Prop) : Prop := ∃ b : Bool, e = .returned (.bool b) ∧ (b = true ↔ p)
theorem retB {b : Bool} {p : Prop} (h : b = true ↔ p) : RetB (.returned (.bool b)) p := ⟨b, rfl, h⟩
end Go.Proofs.YtdhpfhpegaekpaaDoor
