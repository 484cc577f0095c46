/- WRow, ported from seat 1a. -/
import Derived.Test.YtdhpfhpegaekpaaDoorWKept
import Derived.Laws.Rows
import Derived.Laws.MakeOwn
namespace Go.Proofs.YtdhpfhpegaekpaaDoor.V
open Go.RowKit

/-- An atom as numbers and texts. -/
structure AtomT where
  x : Int
  n : Int
  t : ByteArray
  y : ByteArray

def AtomT.v (a : AtomT) : Value := .agg #[.int .i64 a.x, .int .i64 a.n, .string a.t, .string a.y]
structure AtomT.Ok (a : AtomT) : Prop where
  n8 : -9223372036854775808 ≤ a.n
  n9 : a.n ≤ 9223372036854775807
  t9 : a.t.size ≤ maxLen
  y9 : a.y.size ≤ maxLen

/-- Four cells from o on. -/
structure AtomIn (w : World) (b o : Nat) (a : AtomT) : Prop where
  c0 : w.cell? ⟨b, o, none⟩ = some (.int .i64 a.x)
  c1 : w.cell? ⟨b, o + 1, none⟩ = some (.int .i64 a.n)
  c2 : w.cell? ⟨b, o + 2, none⟩ = some (.string a.t)
  c3 : w.cell? ⟨b, o + 3, none⟩ = some (.string a.y)

theorem AtomIn.keep {w w1 : World} {b o : Nat} {a : AtomT} (h : AtomIn w b o a) (z : b < w.heap.size) (hb : Below w.heap.size w w1) : AtomIn w1 b o a :=
  ⟨cellB hb z h.c0, cellB hb z h.c1, cellB hb z h.c2, cellB hb z h.c3⟩

structure AtomRow (w : World) (b off : Nat) (l : List AtomT) : Prop where
  z : b < w.heap.size
  c : ∀ i (h : i < l.length), AtomIn w b (off + i * 4) l[i]
theorem AtomRow.keep {w w1 : World} {b off : Nat} {l : List AtomT} (h : AtomRow w b off l) (hb : Below w.heap.size w w1) : AtomRow w1 b off l :=
  ⟨Nat.lt_of_lt_of_le h.z hb.size, fun i hi => (h.c i hi).keep h.z hb⟩

structure StrRow (w : World) (b off : Nat) (l : List ByteArray) : Prop where
  z : b < w.heap.size
  c : ∀ i (h : i < l.length), w.cell? ⟨b, off + i, none⟩ = some (.string l[i])
theorem StrRow.keep {w w1 : World} {b off : Nat} {l : List ByteArray} (h : StrRow w b off l) (hb : Below w.heap.size w w1) : StrRow w1 b off l :=
  ⟨Nat.lt_of_lt_of_le h.z hb.size, fun i hi => cellB hb h.z (h.c i hi)⟩

/-- The slice a, len reads as l. -/
def SlA (w : World) (a : Option Addr) (len : Nat) (l : List AtomT) : Prop := len = l.length ∧ (l = [] ∨ ∃ b off, a = some ⟨b, off, none⟩ ∧ AtomRow w b off l)
def SlS (w : World) (a : Option Addr) (len : Nat) (l : List ByteArray) : Prop := len = l.length ∧ (l = [] ∨ ∃ b off, a = some ⟨b, off, none⟩ ∧ StrRow w b off l)
theorem SlA.keep {w w1 : World} {a : Option Addr} {len : Nat} {l : List AtomT} (h : SlA w a len l) (hb : Below w.heap.size w w1) : SlA w1 a len l :=
  ⟨h.1, by
    rcases h.2 with e | ⟨b, off, e, r⟩
    · exact .inl e
    · exact .inr ⟨b, off, e, r.keep hb⟩⟩
theorem SlS.keep {w w1 : World} {a : Option Addr} {len : Nat} {l : List ByteArray} (h : SlS w a len l) (hb : Below w.heap.size w w1) : SlS w1 a len l :=
  ⟨h.1, by
    rcases h.2 with e | ⟨b, off, e, r⟩
    · exact .inl e
    · exact .inr ⟨b, off, e, r.keep hb⟩⟩
theorem SlA.at {w : World} {a : Option Addr} {len : Nat} {l : List AtomT} (h : SlA w a len l) {k : Nat} (hk : k < len) : ∃ b off, a = some ⟨b, off, none⟩ ∧ AtomRow w b off l := by
  rcases h.2 with e | e
  · rw [h.1, e] at hk; simp at hk
  · exact e
theorem SlS.at {w : World} {a : Option Addr} {len : Nat} {l : List ByteArray} (h : SlS w a len l) {k : Nat} (hk : k < len) : ∃ b off, a = some ⟨b, off, none⟩ ∧ StrRow w b off l := by
  rcases h.2 with e | e
  · rw [h.1, e] at hk; simp at hk
  · exact e

/-- Block b holds the cells C. -/
def RowIs (w : World) (b : Nat) (C : Array Value) (T : TypeId) : Prop := w.heap[b]? = some (.cells C T (0, 0))
theorem RowIs.cell {w : World} {b : Nat} {C : Array Value} {T : TypeId} (h : RowIs w b C T) (o : Nat) : w.cell? ⟨b, o, none⟩ = C[o]? := by
  unfold RowIs at h; simp [World.cell?, h]
theorem RowIs.froz {w : World} {b : Nat} {C : Array Value} {T : TypeId} (h : RowIs w b C T) (o : Nat) : w.frozen? ⟨b, o, none⟩ = false := by
  unfold RowIs at h; simp [World.frozen?, h]
theorem RowIs.lt {w : World} {b : Nat} {C : Array Value} {T : TypeId} (h : RowIs w b C T) : b < w.heap.size := by
  unfold RowIs at h; exact (Array.getElem?_eq_some_iff.1 h).1
theorem RowIs.keep {w w1 : World} {b : Nat} {C : Array Value} {T : TypeId} (h : RowIs w b C T) (hb : Below w.heap.size w w1) : RowIs w1 b C T := by
  have hl := h.lt
  unfold RowIs at *; rw [hb.block b hl]; exact h
theorem RowIs.set {w : World} {b : Nat} {C : Array Value} {T : TypeId} (h : RowIs w b C T) (o : Nat) (v : Value) : RowIs (w.setCell ⟨b, o, none⟩ v) b (C.setIfInBounds o v) T :=
  heap_setCell_same w b o C T v h
theorem RowIs.new (w : World) (C : Array Value) (T : TypeId) : RowIs (w.alloc (.cells C T)) w.heap.size C T := by
  unfold RowIs; show (w.heap.push _)[w.heap.size]? = _; simp

/-- The first k atoms of l lie in C. -/
def Filled (C : Array Value) (l : List AtomT) (k : Nat) : Prop :=
  ∀ i (h : i < l.length), i < k → C[i * 4]? = some (.int .i64 l[i].x) ∧ C[i * 4 + 1]? = some (.int .i64 l[i].n) ∧ C[i * 4 + 2]? = some (.string l[i].t) ∧ C[i * 4 + 3]? = some (.string l[i].y)
def set4 (C : Array Value) (k : Nat) (a : AtomT) : Array Value :=
  (((C.setIfInBounds (k * 4) (.int .i64 a.x)).setIfInBounds (k * 4 + 1) (.int .i64 a.n)).setIfInBounds (k * 4 + 2) (.string a.t)).setIfInBounds (k * 4 + 3) (.string a.y)
theorem size_set4 (C : Array Value) (k : Nat) (a : AtomT) : (set4 C k a).size = C.size := by simp [set4]
theorem Filled.set {C : Array Value} {l : List AtomT} {k : Nat} (h : Filled C l k) (hk : k < l.length) (hC : C.size = l.length * 4) : Filled (set4 C k l[k]) l (k + 1) := by
  intro i hi hik
  unfold set4
  by_cases e : i = k
  · subst e
    have s0 : i * 4 < C.size := by omega
    have s1 : i * 4 + 1 < C.size := by omega
    have s2 : i * 4 + 2 < C.size := by omega
    have s3 : i * 4 + 3 < C.size := by omega
    simp [s0, s1, s2, s3]
  · have := h i hi (by omega)
    simp only [Array.getElem?_setIfInBounds]
    repeat rw [if_neg (by omega)]
    exact this
theorem Filled.row {w : World} {b : Nat} {C : Array Value} {T : TypeId} {l : List AtomT} (h : Filled C l l.length) (hr : RowIs w b C T) : AtomRow w b 0 l :=
  ⟨hr.lt, fun i hi => by
    obtain ⟨h0, h1, h2, h3⟩ := h i hi hi
    refine ⟨?_, ?_, ?_, ?_⟩
    · rw [Nat.zero_add, hr.cell]; exact h0
    · rw [Nat.zero_add, hr.cell]; exact h1
    · rw [Nat.zero_add, hr.cell]; exact h2
    · rw [Nat.zero_add, hr.cell]; exact h3⟩

def FilledS (C : Array Value) (l : List ByteArray) (k : Nat) : Prop := ∀ i (h : i < l.length), i < k → C[i]? = some (.string l[i])
theorem FilledS.set {C : Array Value} {l : List ByteArray} {k : Nat} (h : FilledS C l k) (hk : k < l.length) (hC : C.size = l.length) : FilledS (C.setIfInBounds k (.string l[k])) l (k + 1) := by
  intro i hi hik
  by_cases e : i = k
  · subst e
    have s0 : i < C.size := by omega
    simp [s0]
  · have := h i hi (by omega)
    rw [Array.getElem?_setIfInBounds, if_neg (by omega)]
    exact this
theorem FilledS.row {w : World} {b : Nat} {C : Array Value} {T : TypeId} {l : List ByteArray} (h : FilledS C l l.length) (hr : RowIs w b C T) : StrRow w b 0 l :=
  ⟨hr.lt, fun i hi => by rw [Nat.zero_add, hr.cell]; exact h i hi hi⟩
theorem cell_setOther {w : World} {b b' o o' : Nat} (v : Value) (h : b ≠ b') : (w.setCell ⟨b', o', none⟩ v).cell? ⟨b, o, none⟩ = w.cell? ⟨b, o, none⟩ :=
  World.cell?_of_block (heap_setCell_other w ⟨b', o', none⟩ b v h)
theorem AtomRow.setOther {w : World} {b off : Nat} {l : List AtomT} (hr : AtomRow w b off l) {b' o' : Nat} (v : Value) (h : b ≠ b') : AtomRow (w.setCell ⟨b', o', none⟩ v) b off l :=
  ⟨by simpa [World.setCell] using hr.z, fun i hi => ⟨by rw [cell_setOther v h]; exact (hr.c i hi).c0, by rw [cell_setOther v h]; exact (hr.c i hi).c1, by rw [cell_setOther v h]; exact (hr.c i hi).c2, by rw [cell_setOther v h]; exact (hr.c i hi).c3⟩⟩
theorem StrRow.setOther {w : World} {b off : Nat} {l : List ByteArray} (hr : StrRow w b off l) {b' o' : Nat} (v : Value) (h : b ≠ b') : StrRow (w.setCell ⟨b', o', none⟩ v) b off l :=
  ⟨by simpa [World.setCell] using hr.z, fun i hi => by rw [cell_setOther v h]; exact hr.c i hi⟩
theorem RowIs.setOther {w : World} {b : Nat} {C : Array Value} {T : TypeId} (h : RowIs w b C T) {b' o' : Nat} (u : Value) (hn : b ≠ b') : RowIs (w.setCell ⟨b', o', none⟩ u) b C T := by
  unfold RowIs at *; rw [heap_setCell_other w ⟨b', o', none⟩ b u hn]; exact h
theorem RowIs.at {w : World} {b : Nat} {C : Array Value} {T : TypeId} (h : RowIs w b C T) {o : Nat} {v : Value} (e : C[o]? = some v) : w.cell? ⟨b, o, none⟩ = some v := by rw [h.cell]; exact e

/-- A value as numbers, texts and lists. -/
structure ValT where
  k : Int
  a : AtomT
  items : List AtomT
  names : List ByteArray
structure ValT.Ok (v : ValT) : Prop where
  a : v.a.Ok
  items : ∀ q ∈ v.items, AtomT.Ok q
  names : ∀ q ∈ v.names, ByteArray.size q ≤ maxLen

/-- The seven cells of a value in block b; s1, s2: its two slices. -/
structure ValAt (w : World) (b : Nat) (v : ValT) (s1 s2 : Value) : Prop where
  c0 : w.cell? ⟨b, 0, none⟩ = some (.int .i64 v.k)
  c1 : w.cell? ⟨b, 1, none⟩ = some (.int .i64 v.a.x)
  c2 : w.cell? ⟨b, 2, none⟩ = some (.int .i64 v.a.n)
  c3 : w.cell? ⟨b, 3, none⟩ = some (.string v.a.t)
  c4 : w.cell? ⟨b, 4, none⟩ = some (.string v.a.y)
  c5 : w.cell? ⟨b, 5, none⟩ = some s1
  c6 : w.cell? ⟨b, 6, none⟩ = some s2
  z : b < w.heap.size
theorem ValAt.keep {w w1 : World} {b : Nat} {v : ValT} {s1 s2 : Value} (h : ValAt w b v s1 s2) (hb : Below w.heap.size w w1) : ValAt w1 b v s1 s2 :=
  ⟨cellB hb h.z h.c0, cellB hb h.z h.c1, cellB hb h.z h.c2, cellB hb h.z h.c3, cellB hb h.z h.c4, cellB hb h.z h.c5, cellB hb h.z h.c6, Nat.lt_of_lt_of_le h.z hb.size⟩
theorem ValAt.setOther {w : World} {b : Nat} {v : ValT} {s1 s2 : Value} (h : ValAt w b v s1 s2) {b' o' : Nat} (u : Value) (hn : b ≠ b') : ValAt (w.setCell ⟨b', o', none⟩ u) b v s1 s2 :=
  ⟨by rw [cell_setOther u hn]; exact h.c0, by rw [cell_setOther u hn]; exact h.c1, by rw [cell_setOther u hn]; exact h.c2, by rw [cell_setOther u hn]; exact h.c3, by rw [cell_setOther u hn]; exact h.c4,
    by rw [cell_setOther u hn]; exact h.c5, by rw [cell_setOther u hn]; exact h.c6, by simpa [World.setCell] using h.z⟩
theorem ValAt.new (w : World) (v : ValT) (s1 s2 : Value) (T : TypeId) : ValAt (w.alloc (.cells #[.int .i64 v.k, .int .i64 v.a.x, .int .i64 v.a.n, .string v.a.t, .string v.a.y, s1, s2] T)) w.heap.size v s1 s2 :=
  ⟨World.cell?_alloc_mark w _ _ _ 0, World.cell?_alloc_mark w _ _ _ 1, World.cell?_alloc_mark w _ _ _ 2, World.cell?_alloc_mark w _ _ _ 3, World.cell?_alloc_mark w _ _ _ 4, World.cell?_alloc_mark w _ _ _ 5, World.cell?_alloc_mark w _ _ _ 6, by simp⟩
theorem ValAt.more {w : World} {b : Nat} {v : ValT} {s1 s2 : Value} (h : ValAt w b v s1 s2) (o : Obj) : ValAt (w.alloc o) b v s1 s2 := h.keep (bAl (Below.refl _ _) o)
theorem ValAt.new1 (w : World) (o : Obj) (v : ValT) (s1 s2 : Value) (T : TypeId) : ValAt ((w.alloc o).alloc (.cells #[.int .i64 v.k, .int .i64 v.a.x, .int .i64 v.a.n, .string v.a.t, .string v.a.y, s1, s2] T)) (w.heap.size + 1) v s1 s2 := by
  have := ValAt.new (w.alloc o) v s1 s2 T
  rw [World.size_alloc] at this
  exact this
theorem undrew {w w' : World} (h : Below w.drew.heap.size w.drew w') : Below w.heap.size w w' := ⟨h.os, h.tape, h.output, h.size, h.block⟩
theorem ValAt.seven {w w' : World} {b : Nat} {v : ValT} {s1 s2 : Value} (h : ValAt w b v s1 s2) (hb : Below w.heap.size w w') :
    w'.cell? ⟨b, 0, none⟩ = some (.int .i64 v.k) ∧ w'.cell? ⟨b, 1, none⟩ = some (.int .i64 v.a.x) ∧ w'.cell? ⟨b, 2, none⟩ = some (.int .i64 v.a.n) ∧ w'.cell? ⟨b, 3, none⟩ = some (.string v.a.t)
      ∧ w'.cell? ⟨b, 4, none⟩ = some (.string v.a.y) ∧ w'.cell? ⟨b, 5, none⟩ = some s1 ∧ w'.cell? ⟨b, 6, none⟩ = some s2 :=
  have k := h.keep hb
  ⟨k.c0, k.c1, k.c2, k.c3, k.c4, k.c5, k.c6⟩
end Go.Proofs.YtdhpfhpegaekpaaDoor.V
