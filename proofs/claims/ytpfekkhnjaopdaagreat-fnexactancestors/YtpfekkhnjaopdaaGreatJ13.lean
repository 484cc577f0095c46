/- WRead, ZRow, one behind the other. -/
import Derived.Test.YtpfekkhnjaopdaaGreatJ2
import Derived.ProofKit
import Derived.Deep.Slices
import Derived.Test.YtpfekkhnjaopdaaGreatJ11
import Derived.Test.YtpfekkhnjaopdaaGreatJ12
import Derived.Laws.MakeOwn
import Derived.OwnWalk
import Derived.Laws.Rows
import Derived.Deep.Cut
/- WRead, ported from seat 1a. -/
namespace Go.Proofs.YtpfekkhnjaopdaaGreat.V
set_option maxRecDepth 100000
open Go.ChangeShapes Go.WideShapes Go.RowKit

section
variable {H : Type} {enc : TypeId × Value → H} {w : World} {base : Nat} {sp : Nat → Bool} {held : Bool}

theorem list4 {α : Type} {l : List α} (h : l.length = 4) : ∃ a b c d, l = [a, b, c, d] := by
  match l, h with
  | [a, b, c, d], _ => exact ⟨a, b, c, d, rfl⟩
theorem list7 {α : Type} {l : List α} (h : l.length = 7) : ∃ a b c d e f g, l = [a, b, c, d, e, f, g] := by
  match l, h with
  | [a, b, c, d, e, f, g], _ => exact ⟨a, b, c, d, e, f, g, rfl⟩

theorem addr_add (b off k : Nat) : (⟨b, off, none⟩ : Addr).add k = ⟨b, off + k, none⟩ := by
  unfold Addr.add; split <;> simp_all

theorem read_atom {n : Nat} {cs : List Value} {x : DataW H × List MemPlace} (h : DataW.trod enc Tryz.prog w base sp held n 24 cs = some x) :
    ∃ A : AtomT, cs = [.int .i64 A.x, .int .i64 A.n, .string A.t, .string A.y] ∧ A.Ok := by
  obtain ⟨xs, m, rfl, _, hlen, hx, hf⟩ := DataW.trod_struct Tryz.underlying24 h
  have hc : Tryz.prog.cellsOf 24 = 4 := by kernel_rfl
  have k3 : Tryz.prog.cellsOf 3 = 1 := by kernel_rfl
  have k9 : Tryz.prog.cellsOf 9 = 1 := by kernel_rfl
  obtain ⟨c0, c1, c2, c3, rfl⟩ := list4 (hlen.trans hc)
  obtain ⟨x0, x1, x2, x3, rfl⟩ := list4 hx
  have h0 : DataW.trod enc Tryz.prog w base sp held m 3 [c0] = some x0 := by have := hf 0 _ rfl; simpa [k3] using this
  have h1 : DataW.trod enc Tryz.prog w base sp held m 3 [c1] = some x1 := by have := hf 1 _ rfl; simpa [k3] using this
  have h2 : DataW.trod enc Tryz.prog w base sp held m 9 [c2] = some x2 := by have := hf 2 _ rfl; simpa [k9] using this
  have h3 : DataW.trod enc Tryz.prog w base sp held m 9 [c3] = some x3 := by have := hf 3 _ rfl; simpa [k9] using this
  obtain ⟨a, q0, _, _⟩ := DataW.trod_int Tryz.underlying3 h0
  obtain ⟨b, q1, _, wb⟩ := DataW.trod_int Tryz.underlying3 h1
  obtain ⟨s, q2, _, ws⟩ := DataW.trod_string Tryz.underlying9 h2
  obtain ⟨r, q3, _, wr⟩ := DataW.trod_string Tryz.underlying9 h3
  simp at q0 q1 q2 q3
  subst q0 q1 q2 q3
  refine ⟨⟨a, b, s, r⟩, rfl, ?_, ?_, ws, wr⟩
  · have := wb
    simp [Lit.wf, IntKind.min, IntKind.max, IntKind.signed, IntKind.bits] at this
    show _ ≤ b
    omega
  · have := wb
    simp [Lit.wf, IntKind.min, IntKind.max, IntKind.signed, IntKind.bits] at this
    show b ≤ _
    omega

theorem read_atoms {n len cap : Nat} {a : Option Addr} {x : DataW H × List MemPlace} (h : DataW.trod enc Tryz.prog w base sp held n 47 [.slice a len cap] = some x) :
    ∃ l : List AtomT, SlA w a len l ∧ (∀ q ∈ l, AtomT.Ok q) ∧ len ≤ maxLen := by
  have hc : Tryz.prog.cellsOf 24 = 4 := by kernel_rfl
  rcases Go.Deep.open_slice Tryz.underlying47 h with ⟨hcs, _⟩ | ⟨a', len', cap', m, n', D, Pl, hcs, _, hl, hm, hmm, _, hel⟩
  · simp at hcs
    obtain ⟨rfl, rfl, rfl⟩ := hcs
    exact ⟨[], ⟨rfl, .inl rfl⟩, by simp, Nat.zero_le _⟩
  · simp at hcs
    obtain ⟨rfl, rfl, rfl⟩ := hcs
    have hlm : len ≤ m := by rw [hmm]; split <;> omega
    by_cases h0 : len = 0
    · subst h0; exact ⟨[], ⟨rfl, .inl rfl⟩, by simp, Nat.zero_le _⟩
    have hspot : a'.spot = none := by
      obtain ⟨cs', h1, h2⟩ := hel 0 (by omega)
      rw [hc] at h1
      obtain ⟨A, rfl, _⟩ := read_atom h2
      have e0 := (World.cells?_some h1).2.2 0 (by omega)
      simp [Addr.add] at e0
      exact World.cell?_spot e0
    obtain ⟨b, off, spot⟩ := a'
    simp only at hspot
    subst hspot
    have hA : ∀ i, i < len → ∃ A : AtomT, A.Ok ∧ AtomIn w b (off + i * 4) A ∧ b < w.heap.size := by
      intro i hi
      obtain ⟨cs', h1, h2⟩ := hel i (by omega)
      rw [hc, addr_add] at h1
      obtain ⟨A, rfl, hok⟩ := read_atom h2
      have h3 := (World.cells?_some h1).2.2
      have e0 := h3 0 (by omega)
      have e1 := h3 1 (by omega)
      have e2 := h3 2 (by omega)
      have e3 := h3 3 (by omega)
      rw [addr_add] at e0 e1 e2 e3
      exact ⟨A, hok, ⟨e0, e1, e2, e3⟩, World.block_lt_of_cell? w ⟨b, off + i * 4 + 0, none⟩ e0⟩
    obtain ⟨f, hf⟩ := @Go.Deep.choose_lt AtomT ⟨⟨0, 0, ⟨#[]⟩, ⟨#[]⟩⟩⟩ len (fun i A => A.Ok ∧ AtomIn w b (off + i * 4) A ∧ b < w.heap.size) hA
    refine ⟨(List.range len).map f, ⟨by simp, .inr ⟨b, off, rfl, (hf 0 (by omega)).2.2, fun i hi => ?_⟩⟩, ?_, by omega⟩
    · simp at hi
      have := (hf i hi).2.1
      simpa using this
    · intro q hq
      simp at hq
      obtain ⟨i, hi, rfl⟩ := hq
      exact (hf i hi).1

theorem read_strings {n len cap : Nat} {a : Option Addr} {x : DataW H × List MemPlace} (h : DataW.trod enc Tryz.prog w base sp held n 48 [.slice a len cap] = some x) :
    ∃ l : List ByteArray, SlS w a len l ∧ (∀ q ∈ l, ByteArray.size q ≤ maxLen) ∧ len ≤ maxLen := by
  have hc : Tryz.prog.cellsOf 9 = 1 := by kernel_rfl
  rcases Go.Deep.open_slice Tryz.underlying48 h with ⟨hcs, _⟩ | ⟨a', len', cap', m, n', D, Pl, hcs, _, hl, hm, hmm, _, hel⟩
  · simp at hcs
    obtain ⟨rfl, rfl, rfl⟩ := hcs
    exact ⟨[], ⟨rfl, .inl rfl⟩, by simp, Nat.zero_le _⟩
  · simp at hcs
    obtain ⟨rfl, rfl, rfl⟩ := hcs
    have hlm : len ≤ m := by rw [hmm]; split <;> omega
    by_cases h0 : len = 0
    · subst h0; exact ⟨[], ⟨rfl, .inl rfl⟩, by simp, Nat.zero_le _⟩
    have hspot : a'.spot = none := by
      obtain ⟨cs', h1, h2⟩ := hel 0 (by omega)
      rw [hc] at h1
      obtain ⟨s, rfl, _, _⟩ := DataW.trod_string Tryz.underlying9 h2
      have e0 := (World.cells?_some h1).2.2 0 (by omega)
      simp [Addr.add] at e0
      exact World.cell?_spot e0
    obtain ⟨b, off, spot⟩ := a'
    simp only at hspot
    subst hspot
    have hA : ∀ i, i < len → ∃ A : ByteArray, A.size ≤ maxLen ∧ w.cell? ⟨b, off + i, none⟩ = some (.string A) ∧ b < w.heap.size := by
      intro i hi
      obtain ⟨cs', h1, h2⟩ := hel i (by omega)
      rw [hc, addr_add, Nat.mul_one] at h1
      obtain ⟨s, rfl, _, hs⟩ := DataW.trod_string Tryz.underlying9 h2
      have e0 := (World.cells?_some h1).2.2 0 (by omega)
      rw [addr_add] at e0
      exact ⟨s, hs, e0, World.block_lt_of_cell? w ⟨b, off + i + 0, none⟩ e0⟩
    obtain ⟨f, hf⟩ := @Go.Deep.choose_lt ByteArray ⟨⟨#[]⟩⟩ len (fun i A => A.size ≤ maxLen ∧ w.cell? ⟨b, off + i, none⟩ = some (.string A) ∧ b < w.heap.size) hA
    refine ⟨(List.range len).map f, ⟨by simp, .inr ⟨b, off, rfl, (hf 0 (by omega)).2.2, fun i hi => ?_⟩⟩, ?_, by omega⟩
    · simp at hi
      have := (hf i hi).2.1
      simpa using this
    · intro q hq
      simp at hq
      obtain ⟨i, hi, rfl⟩ := hq
      exact (hf i hi).1

/-- A value that came in. -/
theorem read_value {r : Reach} {b0 : Nat} {v0 : Value} {d : DataW H} {p : List MemPlace} (hv : Value.okWide Tryz.prog w r b0 107 v0) (h : DataW.Trod enc Tryz.prog w base sp held 107 v0 d p) :
    ∃ (v : ValT) (a1 a2 : Option Addr) (l1 c1 l2 c2 : Nat), v0 = .agg #[.int .i64 v.k, .int .i64 v.a.x, .int .i64 v.a.n, .string v.a.t, .string v.a.y, .slice a1 l1 c1, .slice a2 l2 c2] ∧ v.Ok ∧
      SlA w a1 l1 v.items ∧ SlS w a2 l2 v.names ∧ l1 ≤ maxLen ∧ l2 ≤ maxLen := by
  have hc : Tryz.prog.cellsOf 107 = 7 := by kernel_rfl
  have k3 : Tryz.prog.cellsOf 3 = 1 := by kernel_rfl
  have k36 : Tryz.prog.cellsOf 24 = 4 := by kernel_rfl
  have k42 : Tryz.prog.cellsOf 47 = 1 := by kernel_rfl
  have k43 : Tryz.prog.cellsOf 48 = 1 := by kernel_rfl
  obtain ⟨cs, rfl, hsz⟩ := okWide_struct Tryz.underlying107 hv
  obtain ⟨fuel, hf0⟩ := h
  obtain ⟨xs, m, rfl, _, hlen, hx, hf⟩ := DataW.trod_struct Tryz.underlying107 hf0
  obtain ⟨l⟩ := cs
  obtain ⟨c0, c1, c2, c3, c4, c5, c6, rfl⟩ := list7 (show l.length = 7 from (by simpa using hsz.trans hc))
  obtain ⟨x0, x1, x2, x3, rfl⟩ := list4 hx
  have h0 : DataW.trod enc Tryz.prog w base sp held m 3 [c0] = some x0 := by have := hf 0 _ rfl; simpa [k3, Value.cells] using this
  have h1 : DataW.trod enc Tryz.prog w base sp held m 24 [c1, c2, c3, c4] = some x1 := by have := hf 1 _ rfl; simpa [k36, Value.cells] using this
  have h2 : DataW.trod enc Tryz.prog w base sp held m 47 [c5] = some x2 := by have := hf 2 _ rfl; simpa [k42, Value.cells] using this
  have h3 : DataW.trod enc Tryz.prog w base sp held m 48 [c6] = some x3 := by have := hf 3 _ rfl; simpa [k43, Value.cells] using this
  obtain ⟨k, q0, _, _⟩ := DataW.trod_int Tryz.underlying3 h0
  obtain ⟨A, q1, hok⟩ := read_atom h1
  simp at q0 q1
  subst q0
  obtain ⟨rfl, rfl, rfl, rfl⟩ := q1
  have g2 : ∃ a l c, c5 = .slice a l c := by
    rcases Go.Deep.open_slice Tryz.underlying47 h2 with ⟨hcs, _⟩ | ⟨a', len', cap', _, _, _, _, hcs, _⟩
    · simp at hcs; exact ⟨_, _, _, hcs⟩
    · simp at hcs; exact ⟨_, _, _, hcs⟩
  have g3 : ∃ a l c, c6 = .slice a l c := by
    rcases Go.Deep.open_slice Tryz.underlying48 h3 with ⟨hcs, _⟩ | ⟨a', len', cap', _, _, _, _, hcs, _⟩
    · simp at hcs; exact ⟨_, _, _, hcs⟩
    · simp at hcs; exact ⟨_, _, _, hcs⟩
  obtain ⟨a1, l1, e1, rfl⟩ := g2
  obtain ⟨a2, l2, e2, rfl⟩ := g3
  obtain ⟨items, s1, o1, m1⟩ := read_atoms h2
  obtain ⟨names, s2, o2, m2⟩ := read_strings h3
  exact ⟨⟨k, A, items, names⟩, a1, a2, l1, e1, l2, e2, rfl, ⟨hok, o1, o2⟩, s1, s2, m1, m2⟩
end
end Go.Proofs.YtpfekkhnjaopdaaGreat.V
/- Slices in memory by what they hold, and from which block on it lies: what the nested structs of the laws are made of. -/
namespace Go.Proofs.YtpfekkhnjaopdaaGreat.V
open Go.ChangeShapes Go.WideShapes Go.RowKit

/-- A slice's three words. -/
structure Hd where
  a : Option Addr
  len : Nat
  cap : Nat
/-- What lies in blocks from lo on is the same. -/
structure Fr (lo : Nat) (w w1 : World) : Prop where
  size : w.heap.size ≤ w1.heap.size
  cell : ∀ b o v, lo ≤ b → w.cell? ⟨b, o, none⟩ = some v → w1.cell? ⟨b, o, none⟩ = some v
  froz : ∀ b o, lo ≤ b → b < w.heap.size → w.frozen? ⟨b, o, none⟩ = false → w1.frozen? ⟨b, o, none⟩ = false
theorem froz_block {w w1 : World} {b : Nat} (h : w1.heap[b]? = w.heap[b]?) (o : Nat) : w1.frozen? ⟨b, o, none⟩ = w.frozen? ⟨b, o, none⟩ := by simp only [World.frozen?, h]
theorem Fr.below {w w1 : World} (h : Below w.heap.size w w1) (lo : Nat) : Fr lo w w1 :=
  ⟨h.size, fun b o _ _ hc => cellB h (World.block_lt_of_cell? w ⟨b, o, none⟩ hc) hc, fun b o _ hl hf => by rw [froz_block (h.block b hl)]; exact hf⟩
theorem Fr.set {lo : Nat} (w : World) {b' o' : Nat} (v : Value) (h : b' < lo) : Fr lo w (w.setCell ⟨b', o', none⟩ v) :=
  ⟨by simp [World.setCell], fun b o u hb hc => by rw [cell_setOther v (by omega)]; exact hc, fun b o hb _ hf => by rw [froz_block (heap_setCell_other w ⟨b', o', none⟩ b v (show b ≠ b' from fun e => by omega))]; exact hf⟩
theorem Fr.trans {lo : Nat} {w w1 w2 : World} (h : Fr lo w w1) (k : Fr lo w1 w2) : Fr lo w w2 := ⟨Nat.le_trans h.size k.size, fun b o v hb hc => k.cell b o v hb (h.cell b o v hb hc), fun b o hb hl hf => k.froz b o hb (Nat.lt_of_lt_of_le hl h.size) (h.froz b o hb hl hf)⟩
theorem Fr.mono {lo lo' : Nat} {w w1 : World} (h : Fr lo w w1) (hl : lo ≤ lo') : Fr lo' w w1 := ⟨h.size, fun b o v hb hc => h.cell b o v (Nat.le_trans hl hb) hc, fun b o hb hz hf => h.froz b o (Nat.le_trans hl hb) hz hf⟩
theorem Fr.sets {lo : Nat} {w w1 : World} (h : Fr lo w w1) {b' o' : Nat} (v : Value) (hb : b' < lo) : Fr lo w (w1.setCell ⟨b', o', none⟩ v) := h.trans (Fr.set w1 v hb)

/-- Block b lies from lo on; it may be written into where lo is not 0. -/
def Lo (w : World) (lo b : Nat) : Prop := lo ≤ b ∧ (0 < lo → ∀ o, w.frozen? ⟨b, o, none⟩ = false)
theorem Lo.fr {w w1 : World} {lo b : Nat} (h : Lo w lo b) (hf : Fr lo w w1) (hz : b < w.heap.size) : Lo w1 lo b := ⟨h.1, fun h0 o => hf.froz b o h.1 hz (h.2 h0 o)⟩
theorem Lo.lo {w : World} {lo lo' b : Nat} (h : Lo w lo b) (hl : lo' ≤ lo) : Lo w lo' b := ⟨Nat.le_trans hl h.1, fun h0 => h.2 (Nat.lt_of_lt_of_le h0 hl)⟩
theorem Lo.zero (w : World) (b : Nat) : Lo w 0 b := ⟨Nat.zero_le _, fun h => absurd h (Nat.lt_irrefl _)⟩
theorem Lo.own {w : World} {b : Nat} (h : ∀ o, w.frozen? ⟨b, o, none⟩ = false) : Lo w b b := ⟨Nat.le_refl _, fun _ => h⟩
theorem AtomRow.fr {w w1 : World} {lo b off : Nat} {l : List AtomT} (h : AtomRow w b off l) (hf : Fr lo w w1) (hb : lo ≤ b) : AtomRow w1 b off l :=
  ⟨Nat.lt_of_lt_of_le h.z hf.size, fun i hi => ⟨hf.cell _ _ _ hb (h.c i hi).c0, hf.cell _ _ _ hb (h.c i hi).c1, hf.cell _ _ _ hb (h.c i hi).c2, hf.cell _ _ _ hb (h.c i hi).c3⟩⟩
theorem StrRow.fr {w w1 : World} {lo b off : Nat} {l : List ByteArray} (h : StrRow w b off l) (hf : Fr lo w w1) (hb : lo ≤ b) : StrRow w1 b off l :=
  ⟨Nat.lt_of_lt_of_le h.z hf.size, fun i hi => hf.cell _ _ _ hb (h.c i hi)⟩
def SqA (w : World) (lo : Nat) (h : Hd) (l : List AtomT) : Prop := h.len = l.length ∧ (l = [] ∨ ∃ b off, h.a = some ⟨b, off, none⟩ ∧ Lo w lo b ∧ AtomRow w b off l)
def SqS (w : World) (lo : Nat) (h : Hd) (l : List ByteArray) : Prop := h.len = l.length ∧ (l = [] ∨ ∃ b off, h.a = some ⟨b, off, none⟩ ∧ Lo w lo b ∧ StrRow w b off l)
theorem SqA.fr {w w1 : World} {lo : Nat} {h : Hd} {l : List AtomT} (s : SqA w lo h l) (hf : Fr lo w w1) : SqA w1 lo h l :=
  ⟨s.1, s.2.imp id fun ⟨b, off, e, hb, r⟩ => ⟨b, off, e, hb.fr hf r.z, r.fr hf hb.1⟩⟩
theorem SqS.fr {w w1 : World} {lo : Nat} {h : Hd} {l : List ByteArray} (s : SqS w lo h l) (hf : Fr lo w w1) : SqS w1 lo h l :=
  ⟨s.1, s.2.imp id fun ⟨b, off, e, hb, r⟩ => ⟨b, off, e, hb.fr hf r.z, r.fr hf hb.1⟩⟩
theorem SqA.lo {w : World} {lo lo' : Nat} {h : Hd} {l : List AtomT} (s : SqA w lo h l) (hl : lo' ≤ lo) : SqA w lo' h l :=
  ⟨s.1, s.2.imp id fun ⟨b, off, e, hb, r⟩ => ⟨b, off, e, hb.lo hl, r⟩⟩
theorem SqS.lo {w : World} {lo lo' : Nat} {h : Hd} {l : List ByteArray} (s : SqS w lo h l) (hl : lo' ≤ lo) : SqS w lo' h l :=
  ⟨s.1, s.2.imp id fun ⟨b, off, e, hb, r⟩ => ⟨b, off, e, hb.lo hl, r⟩⟩
theorem SqA.keep {w w1 : World} {lo : Nat} {h : Hd} {l : List AtomT} (s : SqA w lo h l) (hb : Below w.heap.size w w1) : SqA w1 lo h l := s.fr (Fr.below hb lo)
theorem SqS.keep {w w1 : World} {lo : Nat} {h : Hd} {l : List ByteArray} (s : SqS w lo h l) (hb : Below w.heap.size w w1) : SqS w1 lo h l := s.fr (Fr.below hb lo)
theorem SqA.sl {w : World} {lo : Nat} {h : Hd} {l : List AtomT} (s : SqA w lo h l) : SlA w h.a h.len l :=
  ⟨s.1, s.2.imp id fun ⟨b, off, e, _, r⟩ => ⟨b, off, e, r⟩⟩
theorem SqS.sl {w : World} {lo : Nat} {h : Hd} {l : List ByteArray} (s : SqS w lo h l) : SlS w h.a h.len l :=
  ⟨s.1, s.2.imp id fun ⟨b, off, e, _, r⟩ => ⟨b, off, e, r⟩⟩
theorem SqA.of {w : World} {a : Option Addr} {len cap : Nat} {l : List AtomT} (s : SlA w a len l) : SqA w 0 ⟨a, len, cap⟩ l :=
  ⟨s.1, s.2.imp id fun ⟨b, off, e, r⟩ => ⟨b, off, e, Lo.zero _ _, r⟩⟩
theorem SqS.of {w : World} {a : Option Addr} {len cap : Nat} {l : List ByteArray} (s : SlS w a len l) : SqS w 0 ⟨a, len, cap⟩ l :=
  ⟨s.1, s.2.imp id fun ⟨b, off, e, r⟩ => ⟨b, off, e, Lo.zero _ _, r⟩⟩

/-- The laws' functions at slices of atoms and of texts, in these words. -/
theorem szAtomS_n (h : Hd) (l : List AtomT) (left : Int) (w : World) (h0 : 0 ≤ left) (h1 : left ≤ 1048576) (ho : ∀ q ∈ l, AtomT.Ok q) (hl : l.length ≤ maxLen) (hs : SqA w 0 h l) :
    Calls Tryz.prog 40 #[.slice h.a h.len h.cap, .int .i64 left] w fun e w' => (∃ m : Int, -1 ≤ m ∧ m ≤ left ∧ (0 ≤ m → l.length ≤ 1048576) ∧ e = .returned (.int .i64 m)) ∧ Below w.heap.size w w' :=
  (szAtomS_any h.a h.len h.cap l left w h0 h1 (by rw [hs.1]; exact hl) hs.sl ho).mono fun _ _ ⟨⟨m, a, b, c, d⟩, k⟩ => ⟨⟨m, a, b, fun g => by have := c g; rw [hs.1] at this; omega, d⟩, k⟩
theorem szStringS_n (h : Hd) (l : List ByteArray) (left : Int) (w : World) (h0 : 0 ≤ left) (h1 : left ≤ 1048576) (ho : ∀ q ∈ l, ByteArray.size q ≤ maxLen) (hl : l.length ≤ maxLen) (hs : SqS w 0 h l) :
    Calls Tryz.prog 41 #[.slice h.a h.len h.cap, .int .i64 left] w fun e w' => (∃ m : Int, -1 ≤ m ∧ m ≤ left ∧ (0 ≤ m → l.length ≤ 1048576) ∧ e = .returned (.int .i64 m)) ∧ Below w.heap.size w w' :=
  (szStringS_any h.a h.len h.cap l left w h0 h1 (by rw [hs.1]; exact hl) hs.sl ho).mono fun _ _ ⟨⟨m, a, b, c, d⟩, k⟩ => ⟨⟨m, a, b, fun g => by have := c g; rw [hs.1] at this; omega, d⟩, by first | exact k | (subst k; exact Below.refl _ _)⟩
theorem toAtomS_n (h : Hd) (l : List AtomT) (w : World) (hl : l.length ≤ 1048576) (hs : SqA w 0 h l) :
    Calls Tryz.prog 49 #[.slice h.a h.len h.cap] w fun e w' => (∃ h' : Hd, e = .returned (.slice h'.a h'.len h'.cap) ∧ SqA w' w.heap.size h' l) ∧ Below w.heap.size w w' :=
  (toAtomS_f h.a h.len h.cap l w (by rw [hs.1]; exact hl) hs.sl).mono fun _ _ ⟨e, r, f, b⟩ => ⟨⟨⟨_, h.len, h.len⟩, e, hs.1, .inr ⟨_, _, rfl, Lo.own f, r⟩⟩, b⟩
theorem toStringS_n (h : Hd) (l : List ByteArray) (w : World) (hl : l.length ≤ 1048576) (hs : SqS w 0 h l) :
    Calls Tryz.prog 50 #[.slice h.a h.len h.cap] w fun e w' => (∃ h' : Hd, e = .returned (.slice h'.a h'.len h'.cap) ∧ SqS w' w.heap.size h' l) ∧ Below w.heap.size w w' :=
  (toStringS_f h.a h.len h.cap l w (by rw [hs.1]; exact hl) hs.sl).mono fun _ _ ⟨e, r, f, b⟩ => ⟨⟨⟨_, h.len, h.len⟩, e, hs.1, .inr ⟨_, _, rfl, Lo.own f, r⟩⟩, b⟩
theorem eqAtomS_n (h g : Hd) (l : List AtomT) (w : World) (hl : l.length ≤ maxLen) (h1 : SqA w 0 h l) (h2 : SqA w 0 g l) :
    Calls Tryz.prog 11 #[.slice h.a h.len h.cap, .slice g.a g.len g.cap] w fun e w' => e = .returned (.bool true) ∧ Below w.heap.size w w' :=
  eqAtomS_same h.a g.a h.len h.cap g.len g.cap l w h1.sl h2.sl (by rw [h1.1]; exact hl)
theorem eqStringS_n (h g : Hd) (l : List ByteArray) (w : World) (hl : l.length ≤ maxLen) (h1 : SqS w 0 h l) (h2 : SqS w 0 g l) :
    Calls Tryz.prog 61 #[.slice h.a h.len h.cap, .slice g.a g.len g.cap] w fun e w' => e = .returned (.bool true) ∧ Below w.heap.size w w' :=
  eqStringS_same h.a g.a h.len h.cap g.len g.cap l w h1.sl h2.sl (by rw [h1.1]; exact hl)
section
variable {H : Type} {enc : TypeId × Value → H} {w : World} {base : Nat} {sp : Nat → Bool} {held : Bool}
theorem readsA {n len cap : Nat} {a : Option Addr} {x : DataW H × List MemPlace} (h : DataW.trod enc Tryz.prog w base sp held n 47 [.slice a len cap] = some x) :
    ∃ l : List AtomT, SqA w 0 ⟨a, len, cap⟩ l ∧ (∀ q ∈ l, AtomT.Ok q) ∧ l.length ≤ maxLen := by
  obtain ⟨l, s, o, m⟩ := read_atoms h
  exact ⟨l, .of s, o, by rw [← s.1]; exact m⟩
theorem readsS {n len cap : Nat} {a : Option Addr} {x : DataW H × List MemPlace} (h : DataW.trod enc Tryz.prog w base sp held n 48 [.slice a len cap] = some x) :
    ∃ l : List ByteArray, SqS w 0 ⟨a, len, cap⟩ l ∧ (∀ q ∈ l, ByteArray.size q ≤ maxLen) ∧ l.length ≤ maxLen := by
  obtain ⟨l, s, o, m⟩ := read_strings h
  exact ⟨l, .of s, o, by rw [← s.1]; exact m⟩
end
theorem bRow {B g : Nat} {w0 w : World} (hb : Below B w0 w) (hBg : B ≤ g) (cs : Array Value) : Below B w0 (w.setRow g cs) := ⟨hb.os, hb.tape, hb.output, by simpa using hb.size, fun b hb' => by rw [setRow_other _ _ _ _ (by omega)]; exact hb.block b hb'⟩
theorem size_sc (w : World) (a : Addr) (v : Value) : (w.setCell a v).heap.size = w.heap.size := by simp [World.setCell]
theorem Fr.row {lo : Nat} {w w1 : World} (h : Fr lo w w1) {b' : Nat} (cs : Array Value) (hb : b' < lo) : Fr lo w (w1.setRow b' cs) :=
  ⟨by simpa using h.size, fun b o v hl hc => by rw [cell_setRow_other _ _ _ _ (show b ≠ b' from fun e => by omega)]; exact h.cell b o v hl hc, fun b o hl hz hf => by rw [froz_block (setRow_other _ _ _ _ (show b ≠ b' from fun e => by omega))]; exact h.froz b o hl hz hf⟩
theorem bSt {w w' : World} (h : Below w.heap.size w w') {b : Nat} (hb : w.heap.size ≤ b) (o : Nat) (v : Value) : Below w.heap.size w (w'.setCell ⟨b, o, none⟩ v) := h.setCell hb v
end Go.Proofs.YtpfekkhnjaopdaaGreat.V
