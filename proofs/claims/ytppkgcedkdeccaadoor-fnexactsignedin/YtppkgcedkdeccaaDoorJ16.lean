/- WRead, ZRow, WCmpP, one behind the other. -/
import Derived.Test.YtppkgcedkdeccaaDoorJ14
import Derived.ProofKit
import Derived.Deep.Slices
import Derived.Test.YtppkgcedkdeccaaDoorJ15
import Derived.Laws.MakeOwn
import Derived.OwnWalk
import Derived.Laws.Rows
import Derived.Deep.Cut
import Derived.WalkKit
import Derived.Laws.Strings
/- WRead, ported from seat 1a. -/
namespace Go.Proofs.YtppkgcedkdeccaaDoor.V
set_option maxRecDepth 100000
open Go.ChangeShapes Go.WideShapes Go.RowKit

section
variable {H : Type} {enc : TypeId × Value → H} {w : World} {base : Nat} {sp : Nat → Bool} {held : Bool}

theorem list4 {α : Type} {l : List α} (h : l.length = 4) : ∃ a b c d, l = [a, b, c, d] := by
  match l, h with
  | [a, b, c, d], _ => exact ⟨a, b, c, d, rfl⟩
theorem list7 {α : Type} {l : List α} (h : l.length = 7) : ∃ a b c d e f g, l = [a, b, c, d, e, f, g] := by
  match l, h with
  | [a, b, c, d, e, f, g], _ => exact ⟨a, b, c, d, e, f, g, rfl⟩

theorem addr_add (b off k : Nat) : (⟨b, off, none⟩ : Addr).add k = ⟨b, off + k, none⟩ := by
  unfold Addr.add; split <;> simp_all

theorem read_strings {n len cap : Nat} {a : Option Addr} {x : DataW H × List MemPlace} (h : DataW.trod enc Tryd.prog w base sp held n 77 [.slice a len cap] = some x) :
    ∃ l : List ByteArray, SlS w a len l ∧ (∀ q ∈ l, ByteArray.size q ≤ maxLen) ∧ len ≤ maxLen := by
  have hc : Tryd.prog.cellsOf 9 = 1 := by kernel_rfl
  rcases Go.Deep.open_slice Tryd.underlying77 h with ⟨hcs, _⟩ | ⟨a', len', cap', m, n', D, Pl, hcs, _, hl, hm, hmm, _, hel⟩
  · simp at hcs
    obtain ⟨rfl, rfl, rfl⟩ := hcs
    exact ⟨[], ⟨rfl, .inl rfl⟩, by simp, Nat.zero_le _⟩
  · simp at hcs
    obtain ⟨rfl, rfl, rfl⟩ := hcs
    have hlm : len ≤ m := by rw [hmm]; split <;> omega
    by_cases h0 : len = 0
    · subst h0; exact ⟨[], ⟨rfl, .inl rfl⟩, by simp, Nat.zero_le _⟩
    have hspot : a'.spot = none := by
      obtain ⟨cs', h1, h2⟩ := hel 0 (by omega)
      rw [hc] at h1
      obtain ⟨s, rfl, _, _⟩ := DataW.trod_string Tryd.underlying9 h2
      have e0 := (World.cells?_some h1).2.2 0 (by omega)
      simp [Addr.add] at e0
      exact World.cell?_spot e0
    obtain ⟨b, off, spot⟩ := a'
    simp only at hspot
    subst hspot
    have hA : ∀ i, i < len → ∃ A : ByteArray, A.size ≤ maxLen ∧ w.cell? ⟨b, off + i, none⟩ = some (.string A) ∧ b < w.heap.size := by
      intro i hi
      obtain ⟨cs', h1, h2⟩ := hel i (by omega)
      rw [hc, addr_add, Nat.mul_one] at h1
      obtain ⟨s, rfl, _, hs⟩ := DataW.trod_string Tryd.underlying9 h2
      have e0 := (World.cells?_some h1).2.2 0 (by omega)
      rw [addr_add] at e0
      exact ⟨s, hs, e0, World.block_lt_of_cell? w ⟨b, off + i + 0, none⟩ e0⟩
    obtain ⟨f, hf⟩ := @Go.Deep.choose_lt ByteArray ⟨⟨#[]⟩⟩ len (fun i A => A.size ≤ maxLen ∧ w.cell? ⟨b, off + i, none⟩ = some (.string A) ∧ b < w.heap.size) hA
    refine ⟨(List.range len).map f, ⟨by simp, .inr ⟨b, off, rfl, (hf 0 (by omega)).2.2, fun i hi => ?_⟩⟩, ?_, by omega⟩
    · simp at hi
      have := (hf i hi).2.1
      simpa using this
    · intro q hq
      simp at hq
      obtain ⟨i, hi, rfl⟩ := hq
      exact (hf i hi).1

end
end Go.Proofs.YtppkgcedkdeccaaDoor.V
/- Slices in memory by what they hold, and from which block on it lies: what the nested structs of the laws are made of. -/
namespace Go.Proofs.YtppkgcedkdeccaaDoor.V
open Go.ChangeShapes Go.WideShapes Go.RowKit

/-- A slice's three words. -/
structure Hd where
  a : Option Addr
  len : Nat
  cap : Nat
/-- What lies in blocks from lo on is the same. -/
structure Fr (lo : Nat) (w w1 : World) : Prop where
  size : w.heap.size ≤ w1.heap.size
  cell : ∀ b o v, lo ≤ b → w.cell? ⟨b, o, none⟩ = some v → w1.cell? ⟨b, o, none⟩ = some v
  froz : ∀ b o, lo ≤ b → b < w.heap.size → w.frozen? ⟨b, o, none⟩ = false → w1.frozen? ⟨b, o, none⟩ = false
theorem froz_block {w w1 : World} {b : Nat} (h : w1.heap[b]? = w.heap[b]?) (o : Nat) : w1.frozen? ⟨b, o, none⟩ = w.frozen? ⟨b, o, none⟩ := by simp only [World.frozen?, h]
theorem Fr.below {w w1 : World} (h : Below w.heap.size w w1) (lo : Nat) : Fr lo w w1 :=
  ⟨h.size, fun b o _ _ hc => cellB h (World.block_lt_of_cell? w ⟨b, o, none⟩ hc) hc, fun b o _ hl hf => by rw [froz_block (h.block b hl)]; exact hf⟩
theorem Fr.set {lo : Nat} (w : World) {b' o' : Nat} (v : Value) (h : b' < lo) : Fr lo w (w.setCell ⟨b', o', none⟩ v) :=
  ⟨by simp [World.setCell], fun b o u hb hc => by rw [cell_setOther v (by omega)]; exact hc, fun b o hb _ hf => by rw [froz_block (heap_setCell_other w ⟨b', o', none⟩ b v (show b ≠ b' from fun e => by omega))]; exact hf⟩
theorem Fr.trans {lo : Nat} {w w1 w2 : World} (h : Fr lo w w1) (k : Fr lo w1 w2) : Fr lo w w2 := ⟨Nat.le_trans h.size k.size, fun b o v hb hc => k.cell b o v hb (h.cell b o v hb hc), fun b o hb hl hf => k.froz b o hb (Nat.lt_of_lt_of_le hl h.size) (h.froz b o hb hl hf)⟩
theorem Fr.mono {lo lo' : Nat} {w w1 : World} (h : Fr lo w w1) (hl : lo ≤ lo') : Fr lo' w w1 := ⟨h.size, fun b o v hb hc => h.cell b o v (Nat.le_trans hl hb) hc, fun b o hb hz hf => h.froz b o (Nat.le_trans hl hb) hz hf⟩
theorem Fr.sets {lo : Nat} {w w1 : World} (h : Fr lo w w1) {b' o' : Nat} (v : Value) (hb : b' < lo) : Fr lo w (w1.setCell ⟨b', o', none⟩ v) := h.trans (Fr.set w1 v hb)

/-- Block b lies from lo on; it may be written into where lo is not 0. -/
def Lo (w : World) (lo b : Nat) : Prop := lo ≤ b ∧ (0 < lo → ∀ o, w.frozen? ⟨b, o, none⟩ = false)
theorem Lo.fr {w w1 : World} {lo b : Nat} (h : Lo w lo b) (hf : Fr lo w w1) (hz : b < w.heap.size) : Lo w1 lo b := ⟨h.1, fun h0 o => hf.froz b o h.1 hz (h.2 h0 o)⟩
theorem Lo.lo {w : World} {lo lo' b : Nat} (h : Lo w lo b) (hl : lo' ≤ lo) : Lo w lo' b := ⟨Nat.le_trans hl h.1, fun h0 => h.2 (Nat.lt_of_lt_of_le h0 hl)⟩
theorem Lo.zero (w : World) (b : Nat) : Lo w 0 b := ⟨Nat.zero_le _, fun h => absurd h (Nat.lt_irrefl _)⟩
theorem Lo.own {w : World} {b : Nat} (h : ∀ o, w.frozen? ⟨b, o, none⟩ = false) : Lo w b b := ⟨Nat.le_refl _, fun _ => h⟩
theorem AtomRow.fr {w w1 : World} {lo b off : Nat} {l : List AtomT} (h : AtomRow w b off l) (hf : Fr lo w w1) (hb : lo ≤ b) : AtomRow w1 b off l :=
  ⟨Nat.lt_of_lt_of_le h.z hf.size, fun i hi => ⟨hf.cell _ _ _ hb (h.c i hi).c0, hf.cell _ _ _ hb (h.c i hi).c1, hf.cell _ _ _ hb (h.c i hi).c2, hf.cell _ _ _ hb (h.c i hi).c3⟩⟩
theorem StrRow.fr {w w1 : World} {lo b off : Nat} {l : List ByteArray} (h : StrRow w b off l) (hf : Fr lo w w1) (hb : lo ≤ b) : StrRow w1 b off l :=
  ⟨Nat.lt_of_lt_of_le h.z hf.size, fun i hi => hf.cell _ _ _ hb (h.c i hi)⟩
def SqA (w : World) (lo : Nat) (h : Hd) (l : List AtomT) : Prop := h.len = l.length ∧ (l = [] ∨ ∃ b off, h.a = some ⟨b, off, none⟩ ∧ Lo w lo b ∧ AtomRow w b off l)
def SqS (w : World) (lo : Nat) (h : Hd) (l : List ByteArray) : Prop := h.len = l.length ∧ (l = [] ∨ ∃ b off, h.a = some ⟨b, off, none⟩ ∧ Lo w lo b ∧ StrRow w b off l)
theorem SqA.fr {w w1 : World} {lo : Nat} {h : Hd} {l : List AtomT} (s : SqA w lo h l) (hf : Fr lo w w1) : SqA w1 lo h l :=
  ⟨s.1, s.2.imp id fun ⟨b, off, e, hb, r⟩ => ⟨b, off, e, hb.fr hf r.z, r.fr hf hb.1⟩⟩
theorem SqS.fr {w w1 : World} {lo : Nat} {h : Hd} {l : List ByteArray} (s : SqS w lo h l) (hf : Fr lo w w1) : SqS w1 lo h l :=
  ⟨s.1, s.2.imp id fun ⟨b, off, e, hb, r⟩ => ⟨b, off, e, hb.fr hf r.z, r.fr hf hb.1⟩⟩
theorem SqA.lo {w : World} {lo lo' : Nat} {h : Hd} {l : List AtomT} (s : SqA w lo h l) (hl : lo' ≤ lo) : SqA w lo' h l :=
  ⟨s.1, s.2.imp id fun ⟨b, off, e, hb, r⟩ => ⟨b, off, e, hb.lo hl, r⟩⟩
theorem SqS.lo {w : World} {lo lo' : Nat} {h : Hd} {l : List ByteArray} (s : SqS w lo h l) (hl : lo' ≤ lo) : SqS w lo' h l :=
  ⟨s.1, s.2.imp id fun ⟨b, off, e, hb, r⟩ => ⟨b, off, e, hb.lo hl, r⟩⟩
theorem SqA.keep {w w1 : World} {lo : Nat} {h : Hd} {l : List AtomT} (s : SqA w lo h l) (hb : Below w.heap.size w w1) : SqA w1 lo h l := s.fr (Fr.below hb lo)
theorem SqS.keep {w w1 : World} {lo : Nat} {h : Hd} {l : List ByteArray} (s : SqS w lo h l) (hb : Below w.heap.size w w1) : SqS w1 lo h l := s.fr (Fr.below hb lo)
theorem SqA.sl {w : World} {lo : Nat} {h : Hd} {l : List AtomT} (s : SqA w lo h l) : SlA w h.a h.len l :=
  ⟨s.1, s.2.imp id fun ⟨b, off, e, _, r⟩ => ⟨b, off, e, r⟩⟩
theorem SqS.sl {w : World} {lo : Nat} {h : Hd} {l : List ByteArray} (s : SqS w lo h l) : SlS w h.a h.len l :=
  ⟨s.1, s.2.imp id fun ⟨b, off, e, _, r⟩ => ⟨b, off, e, r⟩⟩
theorem SqA.of {w : World} {a : Option Addr} {len cap : Nat} {l : List AtomT} (s : SlA w a len l) : SqA w 0 ⟨a, len, cap⟩ l :=
  ⟨s.1, s.2.imp id fun ⟨b, off, e, r⟩ => ⟨b, off, e, Lo.zero _ _, r⟩⟩
theorem SqS.of {w : World} {a : Option Addr} {len cap : Nat} {l : List ByteArray} (s : SlS w a len l) : SqS w 0 ⟨a, len, cap⟩ l :=
  ⟨s.1, s.2.imp id fun ⟨b, off, e, r⟩ => ⟨b, off, e, Lo.zero _ _, r⟩⟩

section
variable {H : Type} {enc : TypeId × Value → H} {w : World} {base : Nat} {sp : Nat → Bool} {held : Bool}
theorem readsS {n len cap : Nat} {a : Option Addr} {x : DataW H × List MemPlace} (h : DataW.trod enc Tryd.prog w base sp held n 77 [.slice a len cap] = some x) :
    ∃ l : List ByteArray, SqS w 0 ⟨a, len, cap⟩ l ∧ (∀ q ∈ l, ByteArray.size q ≤ maxLen) ∧ l.length ≤ maxLen := by
  obtain ⟨l, s, o, m⟩ := read_strings h
  exact ⟨l, .of s, o, by rw [← s.1]; exact m⟩
end
theorem bRow {B g : Nat} {w0 w : World} (hb : Below B w0 w) (hBg : B ≤ g) (cs : Array Value) : Below B w0 (w.setRow g cs) := ⟨hb.os, hb.tape, hb.output, by simpa using hb.size, fun b hb' => by rw [setRow_other _ _ _ _ (by omega)]; exact hb.block b hb'⟩
theorem size_sc (w : World) (a : Addr) (v : Value) : (w.setCell a v).heap.size = w.heap.size := by simp [World.setCell]
theorem Fr.row {lo : Nat} {w w1 : World} (h : Fr lo w w1) {b' : Nat} (cs : Array Value) (hb : b' < lo) : Fr lo w (w1.setRow b' cs) :=
  ⟨by simpa using h.size, fun b o v hl hc => by rw [cell_setRow_other _ _ _ _ (show b ≠ b' from fun e => by omega)]; exact h.cell b o v hl hc, fun b o hl hz hf => by rw [froz_block (setRow_other _ _ _ _ (show b ≠ b' from fun e => by omega))]; exact h.froz b o hl hz hf⟩
theorem bSt {w w' : World} (h : Below w.heap.size w w') {b : Nat} (hb : w.heap.size ≤ b) (o : Nat) (v : Value) : Below w.heap.size w (w'.setCell ⟨b, o, none⟩ v) := h.setCell hb v
end Go.Proofs.YtppkgcedkdeccaaDoor.V
/- WCmpP, ported from seat 1a. -/
namespace Go.Proofs.YtppkgcedkdeccaaDoor.V

def cmpN (a b : Int) : Int := if a < b then -1 else if b < a then 1 else 0
def cmpT : List UInt8 → List UInt8 → Int
  | [], [] => 0
  | [], _ :: _ => -1
  | _ :: _, [] => 1
  | a :: x, b :: y => if a = b then cmpT x y else cmpN a.toNat b.toNat

theorem cmpN_self (a : Int) : cmpN a a = 0 := by unfold cmpN; rw [if_neg (Int.lt_irrefl a), if_neg (Int.lt_irrefl a)]
theorem cmpN_cases (a b : Int) : cmpN a b = -1 ∨ cmpN a b = 0 ∨ cmpN a b = 1 := by
  unfold cmpN; split
  · exact .inl rfl
  · split
    · exact .inr (.inr rfl)
    · exact .inr (.inl rfl)
theorem cmpN_zero {a b : Int} (h : cmpN a b = 0) : a = b := by
  unfold cmpN at h
  split at h
  · simp at h
  · split at h
    · simp at h
    · omega
theorem cmpT_cases : ∀ a b : List UInt8, cmpT a b = -1 ∨ cmpT a b = 0 ∨ cmpT a b = 1
  | [], [] => by simp [cmpT]
  | [], _ :: _ => by simp [cmpT]
  | _ :: _, [] => by simp [cmpT]
  | a :: x, b :: y => by
    unfold cmpT
    split
    · exact cmpT_cases x y
    · exact cmpN_cases _ _
theorem cmpT_self : ∀ a : List UInt8, cmpT a a = 0
  | [] => rfl
  | a :: x => by unfold cmpT; rw [if_pos rfl]; exact cmpT_self x
theorem u8_eq {a b : UInt8} (h : (a.toNat : Int) = (b.toNat : Int)) : a = b := UInt8.toNat_inj.1 (by omega)
theorem cmpT_zero : ∀ {a b : List UInt8}, cmpT a b = 0 → a = b
  | [], [], _ => rfl
  | [], _ :: _, h => by simp [cmpT] at h
  | _ :: _, [], h => by simp [cmpT] at h
  | a :: x, b :: y, h => by
    unfold cmpT at h
    split at h
    · rename_i e; rw [e, cmpT_zero h]
    · rename_i e; exact absurd (u8_eq (cmpN_zero h)) e

/-- The order by '<' and '=='. -/
theorem cmpT_less : ∀ a b : List UInt8, cmpT a b = if Op.bytesLess a b then -1 else if a == b then 0 else 1
  | [], [] => by simp [cmpT, Op.bytesLess]
  | [], _ :: _ => by simp [cmpT, Op.bytesLess]
  | _ :: _, [] => by simp [cmpT, Op.bytesLess]
  | a :: x, b :: y => by
    unfold cmpT
    by_cases e : a = b
    · subst e
      rw [if_pos rfl, cmpT_less x y]
      simp [Op.bytesLess]
    · rw [if_neg e]
      unfold cmpN
      have hb : (a == b) = false := by simpa using e
      by_cases l : a < b
      · have l' : (a.toNat : Int) < (b.toNat : Int) := by have := UInt8.lt_iff_toNat_lt.1 l; omega
        rw [if_pos l']
        simp [Op.bytesLess, l]
      · have l' : ¬ (a.toNat : Int) < (b.toNat : Int) := by
          intro h; exact l (UInt8.lt_iff_toNat_lt.2 (by omega))
        have l2 : (b.toNat : Int) < (a.toNat : Int) := by
          have : ¬ (a.toNat : Int) = (b.toNat : Int) := fun h => e (u8_eq h)
          omega
        rw [if_neg l', if_pos l2]
        simp [Op.bytesLess, l, hb]

/-- What is the same ahead falls away. -/
theorem cmpT_drop_step (a b : List UInt8) (k : Nat) (ha : k < a.length) (hb : k < b.length) (e : a[k] = b[k]) : cmpT (a.drop k) (b.drop k) = cmpT (a.drop (k + 1)) (b.drop (k + 1)) := by
  rw [List.drop_eq_getElem_cons ha, List.drop_eq_getElem_cons hb]
  show (if a[k] = b[k] then _ else _) = _
  rw [if_pos e]
theorem cmpT_drop_differ (a b : List UInt8) (k : Nat) (ha : k < a.length) (hb : k < b.length) (e : ¬ a[k] = b[k]) : cmpT (a.drop k) (b.drop k) = cmpN a[k].toNat b[k].toNat := by
  rw [List.drop_eq_getElem_cons ha, List.drop_eq_getElem_cons hb]
  show (if a[k] = b[k] then _ else _) = _
  rw [if_neg e]
theorem cmpT_drop_end (a b : List UInt8) (k : Nat) (h : k = a.length ∧ k ≤ b.length ∨ k ≤ a.length ∧ k = b.length) : cmpT (a.drop k) (b.drop k) = cmpN a.length b.length := by
  rcases h with ⟨h1, h2⟩ | ⟨h1, h2⟩
  · rw [List.drop_of_length_le (by omega)]
    by_cases h : k < b.length
    · rw [List.drop_eq_getElem_cons h]; show -1 = cmpN _ _
      unfold cmpN; rw [if_pos (by omega)]
    · rw [List.drop_of_length_le (by omega)]; show 0 = cmpN _ _
      rw [show (a.length : Int) = b.length by omega, cmpN_self]
  · rw [List.drop_of_length_le (l := b) (by omega)]
    by_cases h : k < a.length
    · rw [List.drop_eq_getElem_cons h]; show 1 = cmpN _ _
      unfold cmpN; rw [if_neg (by omega), if_pos (by omega)]
    · rw [List.drop_of_length_le (by omega)]; show 0 = cmpN _ _
      rw [show (a.length : Int) = b.length by omega, cmpN_self]

/-- The order of atoms, good ones. -/
def orI (a b : Int) : Int := if a = 0 then b else a
def cmpA (x n : Int) (t y : ByteArray) (x' n' : Int) (t' y' : ByteArray) : Int :=
  orI (cmpN x x') (orI (cmpN n n') (orI (cmpT y.data.toList y'.data.toList) (cmpT t.data.toList t'.data.toList)))
end Go.Proofs.YtppkgcedkdeccaaDoor.V
