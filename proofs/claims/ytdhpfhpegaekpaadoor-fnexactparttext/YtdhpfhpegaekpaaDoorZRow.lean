/- Slices in memory by what they hold, and from which block on it lies: what the nested structs of the laws are made of. -/
import Derived.Test.YtdhpfhpegaekpaaDoorWSli
import Derived.Test.YtdhpfhpegaekpaaDoorWTo
import Derived.Test.YtdhpfhpegaekpaaDoorWEq
import Derived.Test.YtdhpfhpegaekpaaDoorWRead
import Derived.Deep.Slices
import Derived.Laws.MakeOwn
import Derived.OwnWalk
import Derived.Laws.Rows
import Derived.Deep.Cut
namespace Go.Proofs.YtdhpfhpegaekpaaDoor.V
open Go.ChangeShapes Go.WideShapes Go.RowKit

/-- A slice's three words. -/
structure Hd where
  a : Option Addr
  len : Nat
  cap : Nat
/-- What lies in blocks from lo on is the same. -/
structure Fr (lo : Nat) (w w1 : World) : Prop where
  size : w.heap.size ≤ w1.heap.size
  cell : ∀ b o v, lo ≤ b → w.cell? ⟨b, o, none⟩ = some v → w1.cell? ⟨b, o, none⟩ = some v
  froz : ∀ b o, lo ≤ b → b < w.heap.size → w.frozen? ⟨b, o, none⟩ = false → w1.frozen? ⟨b, o, none⟩ = false
theorem froz_block {w w1 : World} {b : Nat} (h : w1.heap[b]? = w.heap[b]?) (o : Nat) : w1.frozen? ⟨b, o, none⟩ = w.frozen? ⟨b, o, none⟩ := by simp only [World.frozen?, h]
theorem Fr.below {w w1 : World} (h : Below w.heap.size w w1) (lo : Nat) : Fr lo w w1 :=
  ⟨h.size, fun b o _ _ hc => cellB h (World.block_lt_of_cell? w ⟨b, o, none⟩ hc) hc, fun b o _ hl hf => by rw [froz_block (h.block b hl)]; exact hf⟩
theorem Fr.set {lo : Nat} (w : World) {b' o' : Nat} (v : Value) (h : b' < lo) : Fr lo w (w.setCell ⟨b', o', none⟩ v) :=
  ⟨by simp [World.setCell], fun b o u hb hc => by rw [cell_setOther v (by omega)]; exact hc, fun b o hb _ hf => by rw [froz_block (heap_setCell_other w ⟨b', o', none⟩ b v (show b ≠ b' from fun e => by omega))]; exact hf⟩
theorem Fr.trans {lo : Nat} {w w1 w2 : World} (h : Fr lo w w1) (k : Fr lo w1 w2) : Fr lo w w2 := ⟨Nat.le_trans h.size k.size, fun b o v hb hc => k.cell b o v hb (h.cell b o v hb hc), fun b o hb hl hf => k.froz b o hb (Nat.lt_of_lt_of_le hl h.size) (h.froz b o hb hl hf)⟩
theorem Fr.mono {lo lo' : Nat} {w w1 : World} (h : Fr lo w w1) (hl : lo ≤ lo') : Fr lo' w w1 := ⟨h.size, fun b o v hb hc => h.cell b o v (Nat.le_trans hl hb) hc, fun b o hb hz hf => h.froz b o (Nat.le_trans hl hb) hz hf⟩
theorem Fr.sets {lo : Nat} {w w1 : World} (h : Fr lo w w1) {b' o' : Nat} (v : Value) (hb : b' < lo) : Fr lo w (w1.setCell ⟨b', o', none⟩ v) := h.trans (Fr.set w1 v hb)

/-- Block b lies from lo on; it may be written into where lo is not 0. -/
def Lo (w : World) (lo b : Nat) : Prop := lo ≤ b ∧ (0 < lo → ∀ o, w.frozen? ⟨b, o, none⟩ = false)
theorem Lo.fr {w w1 : World} {lo b : Nat} (h : Lo w lo b) (hf : Fr lo w w1) (hz : b < w.heap.size) : Lo w1 lo b := ⟨h.1, fun h0 o => hf.froz b o h.1 hz (h.2 h0 o)⟩
theorem Lo.lo {w : World} {lo lo' b : Nat} (h : Lo w lo b) (hl : lo' ≤ lo) : Lo w lo' b := ⟨Nat.le_trans hl h.1, fun h0 => h.2 (Nat.lt_of_lt_of_le h0 hl)⟩
theorem Lo.zero (w : World) (b : Nat) : Lo w 0 b := ⟨Nat.zero_le _, fun h => absurd h (Nat.lt_irrefl _)⟩
theorem Lo.own {w : World} {b : Nat} (h : ∀ o, w.frozen? ⟨b, o, none⟩ = false) : Lo w b b := ⟨Nat.le_refl _, fun _ => h⟩
theorem AtomRow.fr {w w1 : World} {lo b off : Nat} {l : List AtomT} (h : AtomRow w b off l) (hf : Fr lo w w1) (hb : lo ≤ b) : AtomRow w1 b off l :=
  ⟨Nat.lt_of_lt_of_le h.z hf.size, fun i hi => ⟨hf.cell _ _ _ hb (h.c i hi).c0, hf.cell _ _ _ hb (h.c i hi).c1, hf.cell _ _ _ hb (h.c i hi).c2, hf.cell _ _ _ hb (h.c i hi).c3⟩⟩
theorem StrRow.fr {w w1 : World} {lo b off : Nat} {l : List ByteArray} (h : StrRow w b off l) (hf : Fr lo w w1) (hb : lo ≤ b) : StrRow w1 b off l :=
  ⟨Nat.lt_of_lt_of_le h.z hf.size, fun i hi => hf.cell _ _ _ hb (h.c i hi)⟩
def SqA (w : World) (lo : Nat) (h : Hd) (l : List AtomT) : Prop := h.len = l.length ∧ (l = [] ∨ ∃ b off, h.a = some ⟨b, off, none⟩ ∧ Lo w lo b ∧ AtomRow w b off l)
def SqS (w : World) (lo : Nat) (h : Hd) (l : List ByteArray) : Prop := h.len = l.length ∧ (l = [] ∨ ∃ b off, h.a = some ⟨b, off, none⟩ ∧ Lo w lo b ∧ StrRow w b off l)
theorem SqA.fr {w w1 : World} {lo : Nat} {h : Hd} {l : List AtomT} (s : SqA w lo h l) (hf : Fr lo w w1) : SqA w1 lo h l :=
  ⟨s.1, s.2.imp id fun ⟨b, off, e, hb, r⟩ => ⟨b, off, e, hb.fr hf r.z, r.fr hf hb.1⟩⟩
theorem SqS.fr {w w1 : World} {lo : Nat} {h : Hd} {l : List ByteArray} (s : SqS w lo h l) (hf : Fr lo w w1) : SqS w1 lo h l :=
  ⟨s.1, s.2.imp id fun ⟨b, off, e, hb, r⟩ => ⟨b, off, e, hb.fr hf r.z, r.fr hf hb.1⟩⟩
theorem SqA.lo {w : World} {lo lo' : Nat} {h : Hd} {l : List AtomT} (s : SqA w lo h l) (hl : lo' ≤ lo) : SqA w lo' h l :=
  ⟨s.1, s.2.imp id fun ⟨b, off, e, hb, r⟩ => ⟨b, off, e, hb.lo hl, r⟩⟩
theorem SqS.lo {w : World} {lo lo' : Nat} {h : Hd} {l : List ByteArray} (s : SqS w lo h l) (hl : lo' ≤ lo) : SqS w lo' h l :=
  ⟨s.1, s.2.imp id fun ⟨b, off, e, hb, r⟩ => ⟨b, off, e, hb.lo hl, r⟩⟩
theorem SqA.keep {w w1 : World} {lo : Nat} {h : Hd} {l : List AtomT} (s : SqA w lo h l) (hb : Below w.heap.size w w1) : SqA w1 lo h l := s.fr (Fr.below hb lo)
theorem SqS.keep {w w1 : World} {lo : Nat} {h : Hd} {l : List ByteArray} (s : SqS w lo h l) (hb : Below w.heap.size w w1) : SqS w1 lo h l := s.fr (Fr.below hb lo)
theorem SqA.sl {w : World} {lo : Nat} {h : Hd} {l : List AtomT} (s : SqA w lo h l) : SlA w h.a h.len l :=
  ⟨s.1, s.2.imp id fun ⟨b, off, e, _, r⟩ => ⟨b, off, e, r⟩⟩
theorem SqS.sl {w : World} {lo : Nat} {h : Hd} {l : List ByteArray} (s : SqS w lo h l) : SlS w h.a h.len l :=
  ⟨s.1, s.2.imp id fun ⟨b, off, e, _, r⟩ => ⟨b, off, e, r⟩⟩
theorem SqA.of {w : World} {a : Option Addr} {len cap : Nat} {l : List AtomT} (s : SlA w a len l) : SqA w 0 ⟨a, len, cap⟩ l :=
  ⟨s.1, s.2.imp id fun ⟨b, off, e, r⟩ => ⟨b, off, e, Lo.zero _ _, r⟩⟩
theorem SqS.of {w : World} {a : Option Addr} {len cap : Nat} {l : List ByteArray} (s : SlS w a len l) : SqS w 0 ⟨a, len, cap⟩ l :=
  ⟨s.1, s.2.imp id fun ⟨b, off, e, r⟩ => ⟨b, off, e, Lo.zero _ _, r⟩⟩

theorem szStringS_n (h : Hd) (l : List ByteArray) (left : Int) (w : World) (h0 : 0 ≤ left) (h1 : left ≤ 1048576) (ho : ∀ q ∈ l, ByteArray.size q ≤ maxLen) (hl : l.length ≤ maxLen) (hs : SqS w 0 h l) :
    Calls Tryd.prog 22 #[.slice h.a h.len h.cap, .int .i64 left] w fun e w' => (∃ m : Int, -1 ≤ m ∧ m ≤ left ∧ (0 ≤ m → l.length ≤ 1048576) ∧ e = .returned (.int .i64 m)) ∧ Below w.heap.size w w' :=
  (szStringS_any h.a h.len h.cap l left w h0 h1 (by rw [hs.1]; exact hl) hs.sl ho).mono fun _ _ ⟨⟨m, a, b, c, d⟩, k⟩ => ⟨⟨m, a, b, fun g => by have := c g; rw [hs.1] at this; omega, d⟩, by first | exact k | (subst k; exact Below.refl _ _)⟩
theorem toStringS_n (h : Hd) (l : List ByteArray) (w : World) (hl : l.length ≤ 1048576) (hs : SqS w 0 h l) :
    Calls Tryd.prog 26 #[.slice h.a h.len h.cap] w fun e w' => (∃ h' : Hd, e = .returned (.slice h'.a h'.len h'.cap) ∧ SqS w' w.heap.size h' l) ∧ Below w.heap.size w w' :=
  (toStringS_f h.a h.len h.cap l w (by rw [hs.1]; exact hl) hs.sl).mono fun _ _ ⟨e, r, f, b⟩ => ⟨⟨⟨_, h.len, h.len⟩, e, hs.1, .inr ⟨_, _, rfl, Lo.own f, r⟩⟩, b⟩
theorem eqStringS_n (h g : Hd) (l : List ByteArray) (w : World) (hl : l.length ≤ maxLen) (h1 : SqS w 0 h l) (h2 : SqS w 0 g l) :
    Calls Tryd.prog 27 #[.slice h.a h.len h.cap, .slice g.a g.len g.cap] w fun e w' => e = .returned (.bool true) ∧ Below w.heap.size w w' :=
  eqStringS_same h.a g.a h.len h.cap g.len g.cap l w h1.sl h2.sl (by rw [h1.1]; exact hl)
section
variable {H : Type} {enc : TypeId × Value → H} {w : World} {base : Nat} {sp : Nat → Bool} {held : Bool}
theorem readsS {n len cap : Nat} {a : Option Addr} {x : DataW H × List MemPlace} (h : DataW.trod enc Tryd.prog w base sp held n 32 [.slice a len cap] = some x) :
    ∃ l : List ByteArray, SqS w 0 ⟨a, len, cap⟩ l ∧ (∀ q ∈ l, ByteArray.size q ≤ maxLen) ∧ l.length ≤ maxLen := by
  obtain ⟨l, s, o, m⟩ := read_strings h
  exact ⟨l, .of s, o, by rw [← s.1]; exact m⟩
end
theorem bRow {B g : Nat} {w0 w : World} (hb : Below B w0 w) (hBg : B ≤ g) (cs : Array Value) : Below B w0 (w.setRow g cs) := ⟨hb.os, hb.tape, hb.output, by simpa using hb.size, fun b hb' => by rw [setRow_other _ _ _ _ (by omega)]; exact hb.block b hb'⟩
theorem size_sc (w : World) (a : Addr) (v : Value) : (w.setCell a v).heap.size = w.heap.size := by simp [World.setCell]
theorem Fr.row {lo : Nat} {w w1 : World} (h : Fr lo w w1) {b' : Nat} (cs : Array Value) (hb : b' < lo) : Fr lo w (w1.setRow b' cs) :=
  ⟨by simpa using h.size, fun b o v hl hc => by rw [cell_setRow_other _ _ _ _ (show b ≠ b' from fun e => by omega)]; exact h.cell b o v hl hc, fun b o hl hz hf => by rw [froz_block (setRow_other _ _ _ _ (show b ≠ b' from fun e => by omega))]; exact h.froz b o hl hz hf⟩
theorem bSt {w w' : World} (h : Below w.heap.size w w') {b : Nat} (hb : w.heap.size ≤ b) (o : Nat) (v : Value) : Below w.heap.size w (w'.setCell ⟨b, o, none⟩ v) := h.setCell hb v
end Go.Proofs.YtdhpfhpegaekpaaDoor.V
