/- DByt, DDigP, one behind the other. -/
import Derived.Test.YthemcakenammdaaGreatDoorJ2
import Derived.Laws.Rows
import Derived.Laws.MakeOwn
import Derived.Laws.AppendOwn
import Derived.BigQuiet
import Derived.Lib.SmallJoins
/- Slices of bytes in memory; laws.toByteS, eqByteS, markByteS, heldByteS. -/
namespace Go.Proofs.YthemcakenammdaaGreatDoor.D
open Go.RowKit

def byteV (c : UInt8) : Value := .int .u8 (c.toNat : Int)
theorem cellB {W w' : World} {p : Addr} {v : Value} (hb : Below W.heap.size W w') (hz : p.block < W.heap.size) (hc : W.cell? p = some v) : w'.cell? p = some v := by
  rw [hb.cell hz]; exact hc
theorem cellC {B : Nat} {W w' : World} {p : Addr} {v : Value} (hb : Below B W w') (hz : p.block < B) (hc : W.cell? p = some v) : w'.cell? p = some v := by
  rw [hb.cell hz]; exact hc
theorem bDr {B : Nat} {w w' : World} (h : Below B w w') (k : Nat) : Below B w (w'.drewN k) := ⟨h.os, h.tape, h.output, h.size, h.block⟩

/-- Block b holds the cells C. -/
def RowIs (w : World) (b : Nat) (C : Array Value) (T : TypeId) : Prop := w.heap[b]? = some (.cells C T (0, 0))
theorem RowIs.cell {w : World} {b : Nat} {C : Array Value} {T : TypeId} (h : RowIs w b C T) (o : Nat) : w.cell? ⟨b, o, none⟩ = C[o]? := by
  unfold RowIs at h; simp [World.cell?, h]
theorem RowIs.at {w : World} {b o : Nat} {C : Array Value} {T : TypeId} {v : Value} (h : RowIs w b C T) (e : C[o]? = some v) : w.cell? ⟨b, o, none⟩ = some v := by rw [h.cell, e]
theorem RowIs.froz {w : World} {b : Nat} {C : Array Value} {T : TypeId} (h : RowIs w b C T) (o : Nat) : w.frozen? ⟨b, o, none⟩ = false := by
  unfold RowIs at h; simp [World.frozen?, h]
theorem RowIs.lt {w : World} {b : Nat} {C : Array Value} {T : TypeId} (h : RowIs w b C T) : b < w.heap.size := by
  unfold RowIs at h; exact (Array.getElem?_eq_some_iff.1 h).1
theorem RowIs.keepB {B : Nat} {w w1 : World} {b : Nat} {C : Array Value} {T : TypeId} (h : RowIs w b C T) (hb : Below B w w1) (hl : b < B) : RowIs w1 b C T := by
  unfold RowIs at *; rw [hb.block b hl]; exact h
theorem RowIs.keep {w w1 : World} {b : Nat} {C : Array Value} {T : TypeId} (h : RowIs w b C T) (hb : Below w.heap.size w w1) : RowIs w1 b C T := h.keepB hb h.lt
theorem RowIs.set {w : World} {b : Nat} {C : Array Value} {T : TypeId} (h : RowIs w b C T) (o : Nat) (v : Value) : RowIs (w.setCell ⟨b, o, none⟩ v) b (C.setIfInBounds o v) T :=
  heap_setCell_same w b o C T v h
theorem RowIs.new (w : World) (C : Array Value) (T : TypeId) : RowIs (w.alloc (.cells C T)) w.heap.size C T := by
  unfold RowIs; show (w.heap.push _)[w.heap.size]? = _; simp
theorem RowIs.drN {w : World} {b : Nat} {C : Array Value} {T : TypeId} (h : RowIs w b C T) (n : Nat) : RowIs (w.drewN n) b C T := h

/-- All that was there but block b is as it was. -/
structure But (b : Nat) (w w' : World) : Prop where
  os : w'.os = w.os
  tape : w'.tape = w.tape
  output : w'.output = w.output
  size : w.heap.size ≤ w'.heap.size
  block : ∀ k, k < w.heap.size → k ≠ b → w'.heap[k]? = w.heap[k]?
theorem But.refl (b : Nat) (w : World) : But b w w := ⟨rfl, rfl, rfl, Nat.le_refl _, fun _ _ _ => rfl⟩
theorem But.trans {b : Nat} {x y z : World} (h : But b x y) (k : But b y z) : But b x z :=
  ⟨k.os.trans h.os, k.tape.trans h.tape, k.output.trans h.output, Nat.le_trans h.size k.size, fun i hi hn => (k.block i (Nat.lt_of_lt_of_le hi h.size) hn).trans (h.block i hi hn)⟩
theorem But.of {b : Nat} {w w' : World} (h : Below w.heap.size w w') : But b w w' := ⟨h.os, h.tape, h.output, h.size, fun k hk _ => h.block k hk⟩
theorem But.below {b B : Nat} {w w' : World} (h : But b w w') (hb : B ≤ b) (hw : B ≤ w.heap.size) : Below B w w' := ⟨h.os, h.tape, h.output, h.size, fun k hk => h.block k (by omega) (by omega)⟩
theorem But.set {b o : Nat} {w w' : World} (h : But b w w') (v : Value) : But b w (w'.setCell ⟨b, o, none⟩ v) :=
  h.trans ⟨rfl, rfl, rfl, by simp [World.setCell], fun k _ hn => heap_setCell_other w' ⟨b, o, none⟩ k v hn⟩
theorem But.dr {b : Nat} {w w' : World} (h : But b w w') (n : Nat) : But b w (w'.drewN n) := h.trans ⟨rfl, rfl, rfl, Nat.le_refl _, fun _ _ _ => rfl⟩
theorem But.al {b : Nat} {w w' : World} (h : But b w w') (o : Obj) : But b w (w'.alloc o) := h.trans (But.of (bAl (Below.refl _ _) o))
theorem But.cell {b : Nat} {w w' : World} (h : But b w w') {p : Addr} {v : Value} (hp : p.block < w.heap.size) (hn : p.block ≠ b) (hc : w.cell? p = some v) : w'.cell? p = some v := by
  rw [World.cell?_of_block (h.block p.block hp hn)]; exact hc
theorem But.row {b : Nat} {w w' : World} (h : But b w w') {k : Nat} {C : Array Value} {T : TypeId} (hr : RowIs w k C T) (hn : k ≠ b) : RowIs w' k C T := by
  have hl := hr.lt
  unfold RowIs at *; rw [h.block k hl hn]; exact hr

/-- The bytes l lie in block b from off on. -/
structure BRow (w : World) (b off : Nat) (l : List UInt8) : Prop where
  z : b < w.heap.size
  c : ∀ i (h : i < l.length), w.cell? ⟨b, off + i, none⟩ = some (byteV l[i])
/-- The slice a, len reads as l; all of it lies below B. -/
def SlB (w : World) (B : Nat) (a : Option Addr) (len : Nat) (l : List UInt8) : Prop := len = l.length ∧ (l = [] ∨ ∃ b off, a = some ⟨b, off, none⟩ ∧ b < B ∧ BRow w b off l)
theorem SlB.keepB {B : Nat} {w w1 : World} {a : Option Addr} {len : Nat} {l : List UInt8} (h : SlB w B a len l) (hb : Below B w w1) : SlB w1 B a len l :=
  ⟨h.1, by
    rcases h.2 with e | ⟨b, off, e, hB, r⟩
    · exact .inl e
    · exact .inr ⟨b, off, e, hB, Nat.lt_of_lt_of_le r.z hb.size, fun i hi => cellC hb hB (r.c i hi)⟩⟩
theorem SlB.keep {B : Nat} {w w1 : World} {a : Option Addr} {len : Nat} {l : List UInt8} (h : SlB w B a len l) (hb : Below w.heap.size w w1) : SlB w1 B a len l :=
  ⟨h.1, by
    rcases h.2 with e | ⟨b, off, e, hB, r⟩
    · exact .inl e
    · exact .inr ⟨b, off, e, hB, Nat.lt_of_lt_of_le r.z hb.size, fun i hi => cellB hb r.z (r.c i hi)⟩⟩
theorem SlB.mono {B B' : Nat} {w : World} {a : Option Addr} {len : Nat} {l : List UInt8} (h : SlB w B a len l) (hB : B ≤ B') : SlB w B' a len l :=
  ⟨h.1, h.2.imp_right fun ⟨b, off, e, z, r⟩ => ⟨b, off, e, Nat.lt_of_lt_of_le z hB, r⟩⟩
theorem SlB.at {B : Nat} {w : World} {a : Option Addr} {len : Nat} {l : List UInt8} (h : SlB w B a len l) {k : Nat} (hk : k < len) : ∃ b off, a = some ⟨b, off, none⟩ ∧ b < B ∧ b < w.heap.size ∧ ∀ i (h : i < l.length), w.cell? ⟨b, off + i, none⟩ = some (byteV l[i]) := by
  rcases h.2 with e | ⟨b, off, e, z, r⟩
  · rw [h.1, e] at hk; simp at hk
  · exact ⟨b, off, e, z, r.z, r.c⟩

/-- A block whose cells are bytes, just these. -/
def cellsOf (l : List UInt8) : Array Value := (l.map byteV).toArray
theorem cellsOf_get (l : List UInt8) (i : Nat) (h : i < l.length) : (cellsOf l)[i]? = some (byteV l[i]) := by simp [cellsOf, h]
theorem slB_row {w : World} {b B : Nat} {l : List UInt8} (h : RowIs w b (cellsOf l) 5) (hB : b < B) : SlB w B (some ⟨b, 0, none⟩) l.length l :=
  ⟨rfl, .inr ⟨b, 0, rfl, hB, h.lt, fun i hi => by rw [Nat.zero_add, h.cell]; exact cellsOf_get l i hi⟩⟩
theorem own_row {w : World} {b base : Nat} {l : List UInt8} (h : RowIs w b (cellsOf l) 5) (hB : base ≤ b) (hl : l.length ≤ maxLen) : w.ownsRow base 5 1 (.slice (some ⟨b, 0, none⟩) l.length l.length) l.length (l.map byteV) := by
  refine ⟨by simp, .inr ⟨b, l.length, cellsOf l, rfl, hB, h, Nat.le_refl _, hl, by simp [cellsOf], ?_⟩⟩
  simp only [cellsOf]
  rw [List.take_of_length_le (by simp)]
/-- What is owned reads as a slice. -/
theorem own_sl {w : World} {base : Nat} {v : Value} {l : List UInt8} (h : w.ownsRow base 5 1 v l.length (l.map byteV)) : ∃ a cap, v = .slice a l.length cap ∧ SlB w w.heap.size a l.length l := by
  rcases h.2 with ⟨rfl, e⟩ | ⟨g, cap, cur, rfl, _, hh, _, _, hsz, htk⟩
  · have : l = [] := List.length_eq_zero_iff.1 e
    subst this
    exact ⟨none, 0, rfl, rfl, .inl rfl⟩
  · have hr : RowIs w g cur 5 := hh
    refine ⟨_, _, rfl, rfl, .inr ⟨g, 0, rfl, hr.lt, hr.lt, fun i hi => ?_⟩⟩
    have f0 : (l.map byteV)[i]? = some (byteV l[i]) := by simp [hi]
    rw [← htk, List.getElem?_take] at f0
    rw [Nat.zero_add, hr.cell, ← Array.getElem?_toList]
    split at f0
    · exact f0
    · cases f0
theorem own_but {w w' : World} {base b n : Nat} {v : Value} {xs : List Value} (h : w.ownsRow base 5 1 v n xs) (hb : But b w w') (hl : b < base) : w'.ownsRow base 5 1 v n xs := by
  refine ⟨h.1, h.2.imp_right ?_⟩
  rintro ⟨g, cap, cur, e, h1, hh, r⟩
  exact ⟨g, cap, cur, e, h1, hb.row (T := 5) hh (by omega), r⟩
theorem own_keep {w w' : World} {base n : Nat} {v : Value} {xs : List Value} (h : w.ownsRow base 5 1 v n xs) (hb : Below w.heap.size w w') : w'.ownsRow base 5 1 v n xs := by
  refine ⟨h.1, h.2.imp_right ?_⟩
  rintro ⟨g, cap, cur, e, h1, hh, r⟩
  exact ⟨g, cap, cur, e, h1, RowIs.keep (T := 5) hh hb, r⟩

theorem info_u8 : (Tryz.prog.info? 5).map (fun i => (i.zero, i.size, i.bytes)) = some (some (.int .u8 0), 1, 1) := by kernel_rfl
/-- 'make([]byte, n)'. -/
theorem make_bytes (n : Nat) (w : World) (h : n ≤ 1048576) : ∃ w1, (Instr.makeSlice 44 (.int .i64 (n : Int)) (.int .i64 (n : Int))).run Tryz.prog w = .ok (.slice (some ⟨w.heap.size, 0, none⟩) n n) w1 ∧
    Below w.heap.size w w1 ∧ RowIs w1 w.heap.size (cellsOf (List.replicate n 0)) 5 := by
  obtain ⟨i, h1, h2⟩ := Option.map_eq_some_iff.1 info_u8
  simp only [Prod.mk.injEq] at h2
  obtain ⟨hz, hsz, hby⟩ := h2
  have hr := run_make (P := Tryz.prog) w 44 5 i _ Tryz.underlying44 h1 hz .i64 .i64 (n : Int) (n : Int) (by omega) (by omega) (by rw [hby]; omega) (by omega)
  rw [Int.toNat_natCast, hsz, Nat.mul_one] at hr
  have e : madeCells (Value.int .u8 0).cells n = cellsOf (List.replicate n 0) := by
    refine Array.ext (by simp [cellsOf, madeCells]) (fun i h1 h2 => ?_)
    simp [madeCells, cellsOf, byteV, Value.cells, Nat.mod_one]
  refine ⟨_, hr, bAl (Below.refl _ _) _, ?_⟩
  rw [← e]; exact RowIs.new _ _ _

theorem cellsOf_set (l : List UInt8) (k : Nat) (c : UInt8) : (cellsOf l).setIfInBounds k (byteV c) = cellsOf (l.set k c) := by
  apply Array.toList_inj.1
  simp [cellsOf]
theorem set_take (C l : List UInt8) (k : Nat) (hk : k < l.length) (hC : C.length = l.length) (h : C.take k = l.take k) : (C.set k l[k]).take (k + 1) = l.take (k + 1) := by
  rw [List.take_succ_eq_append_getElem (by simp; omega), List.take_succ_eq_append_getElem hk, List.take_set_of_le (Nat.le_refl _), h]
  simp

theorem eq_take (l m : List UInt8) (k : Nat) (h1 : k < l.length) (h2 : k < m.length) (h : l.take k = m.take k) (e : l[k] = m[k]) : l.take (k + 1) = m.take (k + 1) := by
  rw [List.take_succ_eq_append_getElem h1, List.take_succ_eq_append_getElem h2, h, e]
theorem u8_ne {a b : UInt8} : ((a.toNat : Int) != (b.toNat : Int)) = !(decide (a = b)) := by
  by_cases h : a = b
  · subst h; simp
  · have : (a.toNat : Int) ≠ b.toNat := fun e => h (UInt8.toNat_inj.1 (by omega))
    simp [h, this]

/-- The byte that is marked in place i. -/
def markV (k : Int) (i : Nat) : Value := .int .u8 (IntKind.u8.wrap (k + (i : Int)))
/-- The first n cells bear the marks from k on. -/
def MarkedTo (C : Array Value) (k : Int) (n : Nat) : Prop := ∀ i, i < n → C[i]? = some (markV k i)
theorem MarkedTo.set {C : Array Value} {k : Int} {n : Nat} (h : MarkedTo C k n) (hn : n < C.size) : MarkedTo (C.setIfInBounds n (markV k n)) k (n + 1) := by
  intro i hi
  by_cases e : i = n
  · subst e; simp [hn]
  · rw [Array.getElem?_setIfInBounds, if_neg (by omega)]; exact h i (by omega)

end Go.Proofs.YthemcakenammdaaGreatDoor.D
/- The digest, as lists. -/
namespace Go.Proofs.YthemcakenammdaaGreatDoor.D

def mul4 (i : Nat) : Nat := [1103515245, 69069, 1664525, 22695477].getD i 0
theorem mul4_le (i : Nat) : mul4 i ≤ 1103515245 := by
  unfold mul4
  match i with
  | 0 => decide
  | 1 => decide
  | 2 => decide
  | 3 => decide
  | _ + 4 => simp
/-- One number is changed. -/
def step4 (a : List Nat) (x i : Nat) : List Nat := a.set i ((a.getD i 0 * mul4 i + x + 1 + a.getD ((i + 1) % 4) 0) % 2147483579)
def mixN (a : List Nat) (x : Nat) : Nat → List Nat
  | 0 => a
  | k + 1 => step4 (mixN a x k) x k
def mix (a : List Nat) (x : Nat) : List Nat := mixN a x 4
/-- Four numbers below the prime. -/
def Four (a : List Nat) : Prop := a.length = 4 ∧ ∀ i, a.getD i 0 < 2147483579
theorem Four.step {a : List Nat} (h : Four a) (x i : Nat) : Four (step4 a x i) := by
  refine ⟨by simp [step4, h.1], fun j => ?_⟩
  unfold step4
  rw [List.getD_eq_getElem?_getD]
  by_cases e : i = j
  · subst e
    by_cases hi : i < a.length
    · rw [List.getElem?_set_self hi]; exact Nat.mod_lt _ (by decide)
    · rw [List.getElem?_eq_none (by simp; omega)]; decide
  · rw [List.getElem?_set_ne e, ← List.getD_eq_getElem?_getD]; exact h.2 j
theorem Four.mixN {a : List Nat} (h : Four a) (x k : Nat) : Four (mixN a x k) := by
  induction k with
  | zero => exact h
  | succ k ih => exact ih.step x k
def takes (a : List Nat) (l : List UInt8) : List Nat := l.foldl (fun a c => mix a c.toNat) a
theorem Four.takes {a : List Nat} (h : Four a) (l : List UInt8) : Four (takes a l) := by
  unfold Go.Proofs.YthemcakenammdaaGreatDoor.D.takes
  induction l generalizing a with
  | nil => exact h
  | cons c l ih => exact ih (h.mixN c.toNat 4)
theorem takes_snoc (a : List Nat) (l : List UInt8) (c : UInt8) : takes a (l ++ [c]) = mix (takes a l) c.toNat := by simp [takes]
theorem takes_app (a : List Nat) (l m : List UInt8) : takes a (l ++ m) = takes (takes a l) m := by simp [takes]
theorem four0 : Four [11, 22, 33, 44] := by
  refine ⟨rfl, fun i => ?_⟩
  match i with
  | 0 => decide
  | 1 => decide
  | 2 => decide
  | 3 => decide
  | _ + 4 => simp
/-- A number as bytes. -/
def byte4 (n i : Nat) : UInt8 := UInt8.ofNat (n / 256 ^ i % 256)
theorem byte4_toNat (n i : Nat) : (byte4 n i).toNat = n / 256 ^ i % 256 := by
  unfold byte4; rw [UInt8.toNat_ofNat']; omega
def bytes4 (n : Nat) : List UInt8 := [byte4 n 0, byte4 n 1, byte4 n 2, byte4 n 3]
/-- The four numbers of a digest. -/
def digN (l : List UInt8) : List Nat := takes (takes (takes [11, 22, 33, 44] l) (bytes4 l.length)) (List.replicate 8 0)
theorem digN_four (l : List UInt8) : Four (digN l) := ((four0.takes _).takes _).takes _
def tell (a : List Nat) : List UInt8 := a.flatMap bytes4
theorem tell_snoc (a : List Nat) (n : Nat) : tell (a ++ [n]) = tell a ++ bytes4 n := by simp [tell]
theorem tell_len (a : List Nat) : (tell a).length = 4 * a.length := by
  induction a with
  | nil => rfl
  | cons x xs ih => show (bytes4 x ++ tell xs).length = _; rw [List.length_append, ih]; simp [bytes4]; omega
def dig (l : List UInt8) : List UInt8 := tell (digN l)
theorem dig_len (l : List UInt8) : (dig l).length = 16 := by unfold dig; rw [tell_len, (digN_four l).1]
end Go.Proofs.YthemcakenammdaaGreatDoor.D
