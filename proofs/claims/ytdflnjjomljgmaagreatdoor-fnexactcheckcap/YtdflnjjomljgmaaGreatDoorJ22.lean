/- DPow, DByt, one behind the other. -/
import Derived.Test.YtdflnjjomljgmaaGreatDoorRows
import Derived.Test.YtdflnjjomljgmaaGreatDoorJ21
import Derived.WalkKit
import Derived.WalkSpells
import Derived.WalkLawsBesides
import Derived.Below
import Derived.Laws.Bits64b
import Derived.Laws.Rows
import Derived.Laws.MakeOwn
import Derived.Laws.AppendOwn
import Derived.BigQuiet
import Derived.Lib.SmallJoins
/- Powers: impl.power, spec.l2Power; secrets; PublicOf on both sides. -/
namespace Go.Proofs.YtdflnjjomljgmaaGreatDoor.D
open Go.RowKit

theorem hide {p : Prop} (h : p) : Hid p := h
theorem unhide {p : Prop} (h : Hid p) : p := h.out
theorem bAl {w w' : World} (h : Below w.heap.size w w') (o : Obj) : Below w.heap.size w (w'.alloc o) := h.alloc h.size o
theorem bTr {w a b : World} (h : Below w.heap.size w a) (k : Below a.heap.size a b) : Below w.heap.size w b := h.trans (k.mono h.size)
theorem ret_bool {a b : Bool} (h : a = b) : Ending.returned (.bool a) = .returned (.bool b) := by rw [h]
theorem ret_int {a b : Int} (h : a = b) : Ending.returned (.int .i64 a) = .returned (.int .i64 b) := by rw [h]

theorem mul_ok {a b m : Nat} (ha : a < m) (hb : b < m) (hm : m < 2147483648) : (0 : Int) ≤ (a : Int) * (b : Int) ∧ (a : Int) * (b : Int) < 4611686018427387904 := by
  have := mulLt ha hb hm
  rw [← Int.natCast_mul]; omega

/-- The power, under a name that no simp opens. -/
def pw (b e m : Nat) : Nat := b ^ e % m
theorem pw_lt (b e m : Nat) (h : 1 < m) : pw b e m < m := Nat.mod_lt _ (by omega)
theorem wraps_i64 (n : Int) (h₀ : 0 ≤ n) (h₁ : n < 2 ^ 63) : IntKind.i64.wrap n = n := by rw [IntKind.wrap_i64]; omega
theorem and1 (x : Int) (h0 : 0 ≤ x) (h1 : x < 9223372036854775808) : bits .and .i64 x 1 = x % 2 := bits_mask .i64 63 (by decide) wraps_i64 1 (by decide) x h0 h1
theorem odd_step (o b e m B E : Nat) (h : (o * b ^ e) % m = B ^ E % m) (he : e % 2 = 1) : ((o * b % m) * (b * b % m) ^ (e / 2)) % m = B ^ E % m := by rw [powOdd _ _ _ _ he, h]
theorem even_step (o b e m B E : Nat) (h : (o * b ^ e) % m = B ^ E % m) (he : e % 2 = 0) : (o * (b * b % m) ^ (e / 2)) % m = B ^ E % m := by rw [powEven _ _ _ _ he, h]

theorem up0 (a m n i : Nat) (h : n / 2 ^ i % 2 = 0) : (a ^ (n / 2 ^ (i + 1)) % m) * (a ^ (n / 2 ^ (i + 1)) % m) % m = a ^ (n / 2 ^ i) % m := by
  rw [Nat.pow_succ, ← Nat.div_div_eq_div_mul]; exact powUp0 a m _ h
theorem up1 (a m n i : Nat) (h : n / 2 ^ i % 2 = 1) : ((a ^ (n / 2 ^ (i + 1)) % m) * (a ^ (n / 2 ^ (i + 1)) % m) % m) * a % m = a ^ (n / 2 ^ i) % m := by
  rw [Nat.pow_succ, ← Nat.div_div_eq_div_mul]; exact powUp1 a m _ h

/-- A secret. -/
def secB (n : Int) : Bool := decide (1 ≤ n) && decide (n < 1073741789)
theorem secB_nat {n : Int} (h : secB n = true) : ∃ k : Nat, n = k ∧ 1 ≤ k ∧ k < 1073741789 := by
  simp [secB] at h
  exact ⟨n.toNat, by omega, by omega, by omega⟩
/-- The public number. -/
def pubOf (n : Int) : Nat := if secB n then pw 4 n.toNat 2147483579 else 0
end Go.Proofs.YtdflnjjomljgmaaGreatDoor.D
/- Slices of bytes in memory; laws.toByteS, eqByteS, markByteS, heldByteS. -/
namespace Go.Proofs.YtdflnjjomljgmaaGreatDoor.D
open Go.RowKit

def byteV (c : UInt8) : Value := .int .u8 (c.toNat : Int)
theorem cellB {W w' : World} {p : Addr} {v : Value} (hb : Below W.heap.size W w') (hz : p.block < W.heap.size) (hc : W.cell? p = some v) : w'.cell? p = some v := by
  rw [hb.cell hz]; exact hc
theorem cellC {B : Nat} {W w' : World} {p : Addr} {v : Value} (hb : Below B W w') (hz : p.block < B) (hc : W.cell? p = some v) : w'.cell? p = some v := by
  rw [hb.cell hz]; exact hc
theorem bDr {B : Nat} {w w' : World} (h : Below B w w') (k : Nat) : Below B w (w'.drewN k) := ⟨h.os, h.tape, h.output, h.size, h.block⟩

/-- Block b holds the cells C. -/
def RowIs (w : World) (b : Nat) (C : Array Value) (T : TypeId) : Prop := w.heap[b]? = some (.cells C T (0, 0))
theorem RowIs.cell {w : World} {b : Nat} {C : Array Value} {T : TypeId} (h : RowIs w b C T) (o : Nat) : w.cell? ⟨b, o, none⟩ = C[o]? := by
  unfold RowIs at h; simp [World.cell?, h]
theorem RowIs.at {w : World} {b o : Nat} {C : Array Value} {T : TypeId} {v : Value} (h : RowIs w b C T) (e : C[o]? = some v) : w.cell? ⟨b, o, none⟩ = some v := by rw [h.cell, e]
theorem RowIs.froz {w : World} {b : Nat} {C : Array Value} {T : TypeId} (h : RowIs w b C T) (o : Nat) : w.frozen? ⟨b, o, none⟩ = false := by
  unfold RowIs at h; simp [World.frozen?, h]
theorem RowIs.lt {w : World} {b : Nat} {C : Array Value} {T : TypeId} (h : RowIs w b C T) : b < w.heap.size := by
  unfold RowIs at h; exact (Array.getElem?_eq_some_iff.1 h).1
theorem RowIs.keepB {B : Nat} {w w1 : World} {b : Nat} {C : Array Value} {T : TypeId} (h : RowIs w b C T) (hb : Below B w w1) (hl : b < B) : RowIs w1 b C T := by
  unfold RowIs at *; rw [hb.block b hl]; exact h
theorem RowIs.keep {w w1 : World} {b : Nat} {C : Array Value} {T : TypeId} (h : RowIs w b C T) (hb : Below w.heap.size w w1) : RowIs w1 b C T := h.keepB hb h.lt
theorem RowIs.set {w : World} {b : Nat} {C : Array Value} {T : TypeId} (h : RowIs w b C T) (o : Nat) (v : Value) : RowIs (w.setCell ⟨b, o, none⟩ v) b (C.setIfInBounds o v) T :=
  heap_setCell_same w b o C T v h
theorem RowIs.new (w : World) (C : Array Value) (T : TypeId) : RowIs (w.alloc (.cells C T)) w.heap.size C T := by
  unfold RowIs; show (w.heap.push _)[w.heap.size]? = _; simp
theorem RowIs.drN {w : World} {b : Nat} {C : Array Value} {T : TypeId} (h : RowIs w b C T) (n : Nat) : RowIs (w.drewN n) b C T := h

/-- All that was there but block b is as it was. -/
structure But (b : Nat) (w w' : World) : Prop where
  os : w'.os = w.os
  tape : w'.tape = w.tape
  output : w'.output = w.output
  size : w.heap.size ≤ w'.heap.size
  block : ∀ k, k < w.heap.size → k ≠ b → w'.heap[k]? = w.heap[k]?
theorem But.refl (b : Nat) (w : World) : But b w w := ⟨rfl, rfl, rfl, Nat.le_refl _, fun _ _ _ => rfl⟩
theorem But.trans {b : Nat} {x y z : World} (h : But b x y) (k : But b y z) : But b x z :=
  ⟨k.os.trans h.os, k.tape.trans h.tape, k.output.trans h.output, Nat.le_trans h.size k.size, fun i hi hn => (k.block i (Nat.lt_of_lt_of_le hi h.size) hn).trans (h.block i hi hn)⟩
theorem But.of {b : Nat} {w w' : World} (h : Below w.heap.size w w') : But b w w' := ⟨h.os, h.tape, h.output, h.size, fun k hk _ => h.block k hk⟩
theorem But.below {b B : Nat} {w w' : World} (h : But b w w') (hb : B ≤ b) (hw : B ≤ w.heap.size) : Below B w w' := ⟨h.os, h.tape, h.output, h.size, fun k hk => h.block k (by omega) (by omega)⟩
theorem But.set {b o : Nat} {w w' : World} (h : But b w w') (v : Value) : But b w (w'.setCell ⟨b, o, none⟩ v) :=
  h.trans ⟨rfl, rfl, rfl, by simp [World.setCell], fun k _ hn => heap_setCell_other w' ⟨b, o, none⟩ k v hn⟩
theorem But.dr {b : Nat} {w w' : World} (h : But b w w') (n : Nat) : But b w (w'.drewN n) := h.trans ⟨rfl, rfl, rfl, Nat.le_refl _, fun _ _ _ => rfl⟩
theorem But.al {b : Nat} {w w' : World} (h : But b w w') (o : Obj) : But b w (w'.alloc o) := h.trans (But.of (bAl (Below.refl _ _) o))
theorem But.cell {b : Nat} {w w' : World} (h : But b w w') {p : Addr} {v : Value} (hp : p.block < w.heap.size) (hn : p.block ≠ b) (hc : w.cell? p = some v) : w'.cell? p = some v := by
  rw [World.cell?_of_block (h.block p.block hp hn)]; exact hc
theorem But.row {b : Nat} {w w' : World} (h : But b w w') {k : Nat} {C : Array Value} {T : TypeId} (hr : RowIs w k C T) (hn : k ≠ b) : RowIs w' k C T := by
  have hl := hr.lt
  unfold RowIs at *; rw [h.block k hl hn]; exact hr

/-- The bytes l lie in block b from off on. -/
structure BRow (w : World) (b off : Nat) (l : List UInt8) : Prop where
  z : b < w.heap.size
  c : ∀ i (h : i < l.length), w.cell? ⟨b, off + i, none⟩ = some (byteV l[i])
/-- The slice a, len reads as l; all of it lies below B. -/
def SlB (w : World) (B : Nat) (a : Option Addr) (len : Nat) (l : List UInt8) : Prop := len = l.length ∧ (l = [] ∨ ∃ b off, a = some ⟨b, off, none⟩ ∧ b < B ∧ BRow w b off l)
theorem SlB.keepB {B : Nat} {w w1 : World} {a : Option Addr} {len : Nat} {l : List UInt8} (h : SlB w B a len l) (hb : Below B w w1) : SlB w1 B a len l :=
  ⟨h.1, by
    rcases h.2 with e | ⟨b, off, e, hB, r⟩
    · exact .inl e
    · exact .inr ⟨b, off, e, hB, Nat.lt_of_lt_of_le r.z hb.size, fun i hi => cellC hb hB (r.c i hi)⟩⟩
theorem SlB.keep {B : Nat} {w w1 : World} {a : Option Addr} {len : Nat} {l : List UInt8} (h : SlB w B a len l) (hb : Below w.heap.size w w1) : SlB w1 B a len l :=
  ⟨h.1, by
    rcases h.2 with e | ⟨b, off, e, hB, r⟩
    · exact .inl e
    · exact .inr ⟨b, off, e, hB, Nat.lt_of_lt_of_le r.z hb.size, fun i hi => cellB hb r.z (r.c i hi)⟩⟩
theorem SlB.mono {B B' : Nat} {w : World} {a : Option Addr} {len : Nat} {l : List UInt8} (h : SlB w B a len l) (hB : B ≤ B') : SlB w B' a len l :=
  ⟨h.1, h.2.imp_right fun ⟨b, off, e, z, r⟩ => ⟨b, off, e, Nat.lt_of_lt_of_le z hB, r⟩⟩
theorem SlB.at {B : Nat} {w : World} {a : Option Addr} {len : Nat} {l : List UInt8} (h : SlB w B a len l) {k : Nat} (hk : k < len) : ∃ b off, a = some ⟨b, off, none⟩ ∧ b < B ∧ b < w.heap.size ∧ ∀ i (h : i < l.length), w.cell? ⟨b, off + i, none⟩ = some (byteV l[i]) := by
  rcases h.2 with e | ⟨b, off, e, z, r⟩
  · rw [h.1, e] at hk; simp at hk
  · exact ⟨b, off, e, z, r.z, r.c⟩

/-- A block whose cells are bytes, just these. -/
def cellsOf (l : List UInt8) : Array Value := (l.map byteV).toArray
theorem cellsOf_get (l : List UInt8) (i : Nat) (h : i < l.length) : (cellsOf l)[i]? = some (byteV l[i]) := by simp [cellsOf, h]
theorem slB_row {w : World} {b B : Nat} {l : List UInt8} (h : RowIs w b (cellsOf l) 5) (hB : b < B) : SlB w B (some ⟨b, 0, none⟩) l.length l :=
  ⟨rfl, .inr ⟨b, 0, rfl, hB, h.lt, fun i hi => by rw [Nat.zero_add, h.cell]; exact cellsOf_get l i hi⟩⟩
theorem own_row {w : World} {b base : Nat} {l : List UInt8} (h : RowIs w b (cellsOf l) 5) (hB : base ≤ b) (hl : l.length ≤ maxLen) : w.ownsRow base 5 1 (.slice (some ⟨b, 0, none⟩) l.length l.length) l.length (l.map byteV) := by
  refine ⟨by simp, .inr ⟨b, l.length, cellsOf l, rfl, hB, h, Nat.le_refl _, hl, by simp [cellsOf], ?_⟩⟩
  simp only [cellsOf]
  rw [List.take_of_length_le (by simp)]
/-- What is owned reads as a slice. -/
theorem own_sl {w : World} {base : Nat} {v : Value} {l : List UInt8} (h : w.ownsRow base 5 1 v l.length (l.map byteV)) : ∃ a cap, v = .slice a l.length cap ∧ SlB w w.heap.size a l.length l := by
  rcases h.2 with ⟨rfl, e⟩ | ⟨g, cap, cur, rfl, _, hh, _, _, hsz, htk⟩
  · have : l = [] := List.length_eq_zero_iff.1 e
    subst this
    exact ⟨none, 0, rfl, rfl, .inl rfl⟩
  · have hr : RowIs w g cur 5 := hh
    refine ⟨_, _, rfl, rfl, .inr ⟨g, 0, rfl, hr.lt, hr.lt, fun i hi => ?_⟩⟩
    have f0 : (l.map byteV)[i]? = some (byteV l[i]) := by simp [hi]
    rw [← htk, List.getElem?_take] at f0
    rw [Nat.zero_add, hr.cell, ← Array.getElem?_toList]
    split at f0
    · exact f0
    · cases f0
theorem own_but {w w' : World} {base b n : Nat} {v : Value} {xs : List Value} (h : w.ownsRow base 5 1 v n xs) (hb : But b w w') (hl : b < base) : w'.ownsRow base 5 1 v n xs := by
  refine ⟨h.1, h.2.imp_right ?_⟩
  rintro ⟨g, cap, cur, e, h1, hh, r⟩
  exact ⟨g, cap, cur, e, h1, hb.row (T := 5) hh (by omega), r⟩
theorem own_keep {w w' : World} {base n : Nat} {v : Value} {xs : List Value} (h : w.ownsRow base 5 1 v n xs) (hb : Below w.heap.size w w') : w'.ownsRow base 5 1 v n xs := by
  refine ⟨h.1, h.2.imp_right ?_⟩
  rintro ⟨g, cap, cur, e, h1, hh, r⟩
  exact ⟨g, cap, cur, e, h1, RowIs.keep (T := 5) hh hb, r⟩

theorem info_u8 : (Tryz.prog.info? 5).map (fun i => (i.zero, i.size, i.bytes)) = some (some (.int .u8 0), 1, 1) := by kernel_rfl
/-- 'make([]byte, n)'. -/
theorem make_bytes (n : Nat) (w : World) (h : n ≤ 1048576) : ∃ w1, (Instr.makeSlice 22 (.int .i64 (n : Int)) (.int .i64 (n : Int))).run Tryz.prog w = .ok (.slice (some ⟨w.heap.size, 0, none⟩) n n) w1 ∧
    Below w.heap.size w w1 ∧ RowIs w1 w.heap.size (cellsOf (List.replicate n 0)) 5 := by
  obtain ⟨i, h1, h2⟩ := Option.map_eq_some_iff.1 info_u8
  simp only [Prod.mk.injEq] at h2
  obtain ⟨hz, hsz, hby⟩ := h2
  have hr := run_make (P := Tryz.prog) w 22 5 i _ Tryz.underlying22 h1 hz .i64 .i64 (n : Int) (n : Int) (by omega) (by omega) (by rw [hby]; omega) (by omega)
  rw [Int.toNat_natCast, hsz, Nat.mul_one] at hr
  have e : madeCells (Value.int .u8 0).cells n = cellsOf (List.replicate n 0) := by
    refine Array.ext (by simp [cellsOf, madeCells]) (fun i h1 h2 => ?_)
    simp [madeCells, cellsOf, byteV, Value.cells, Nat.mod_one]
  refine ⟨_, hr, bAl (Below.refl _ _) _, ?_⟩
  rw [← e]; exact RowIs.new _ _ _

theorem cellsOf_set (l : List UInt8) (k : Nat) (c : UInt8) : (cellsOf l).setIfInBounds k (byteV c) = cellsOf (l.set k c) := by
  apply Array.toList_inj.1
  simp [cellsOf]
theorem set_take (C l : List UInt8) (k : Nat) (hk : k < l.length) (hC : C.length = l.length) (h : C.take k = l.take k) : (C.set k l[k]).take (k + 1) = l.take (k + 1) := by
  rw [List.take_succ_eq_append_getElem (by simp; omega), List.take_succ_eq_append_getElem hk, List.take_set_of_le (Nat.le_refl _), h]
  simp

set_option maxHeartbeats 400000 in
theorem toByteS_any (a : Option Addr) (len cap : Nat) (l : List UInt8) (w : World) (hl : len ≤ 1048576) (hs : SlB w w.heap.size a len l) :
    Calls Tryz.prog 7 #[.slice a len cap] w fun e w' => e = .returned (.slice (some ⟨w.heap.size, 0, none⟩) len len) ∧ RowIs w' w.heap.size (cellsOf l) 5 ∧ Below w.heap.size w w' := by
  obtain ⟨w1, hrun, hb1, hr1⟩ := make_bytes len w hl
  have HS := hide hs
  have HB1 := hide hb1
  have HR1 := hide hr1
  clear hs hb1 hr1
  go_enter Tryz.func7, Tryz.ntmps7
  go_wp2_with fail
  clear hrun
  go_loopw [4] (fun i w' => ∃ (k : Nat) (C : List UInt8), k ≤ len ∧ i = .int .i64 k ∧ Hid (Below w.heap.size w w') ∧ Hid (RowIs w' w.heap.size (cellsOf C) 5) ∧ Hid (C.length = l.length) ∧ Hid (C.take k = l.take k)) (fun i _ => len - (intOf i).toNat)
  case atStart => exact ⟨0, _, Nat.zero_le _, rfl, HB1, HR1, hide (by rw [List.length_replicate]; exact (unhide HS).1), hide (by simp)⟩
  case round =>
    obtain ⟨k, C, hk, rfl, hb, hr, hC, hF⟩ := hrel
    by_cases hlt : k < len
    · obtain ⟨b, off, rfl, _, _, hrow⟩ := ((unhide HS).keep (unhide hb)).at hlt
      have hk' : k < l.length := by rw [← (unhide HS).1]; exact hlt
      have c0 := hrow k hk'
      have fr := (unhide hr).froz k
      have hck : k < C.length := by rw [unhide hC]; exact hk'
      have c1 := (unhide hr).at (cellsOf_get C k hck)
      have hz : w.heap.size < wr.heap.size := (unhide hr).lt
      have hF' := hide (set_take C l k hk' (unhide hC) (unhide hF))
      clear hrow
      generalize l[k] = A at c0 hF'
      generalize C[k] = D at c1
      unfold byteV at c0 c1
      go_wp2_with fail
      exact ⟨⟨k + 1, C.set k A, by omega, by go_num, hide ((unhide hb).setCell (Nat.le_refl _) _), hide (by rw [← cellsOf_set]; exact (unhide hr).set k _), hide (by rw [List.length_set]; exact unhide hC), hF'⟩, by simp [intOf]; omega⟩
    · go_wp2_with fail
      go_ret
      have e : k = l.length := by rw [← (unhide HS).1]; omega
      have e2 : C = l := by
        have := unhide hF
        rwa [e, List.take_of_length_le (Nat.le_of_eq (unhide hC)), List.take_of_length_le (Nat.le_refl _)] at this
      exact ⟨rfl, by rw [← e2]; exact unhide hr, unhide hb⟩

theorem eq_take (l m : List UInt8) (k : Nat) (h1 : k < l.length) (h2 : k < m.length) (h : l.take k = m.take k) (e : l[k] = m[k]) : l.take (k + 1) = m.take (k + 1) := by
  rw [List.take_succ_eq_append_getElem h1, List.take_succ_eq_append_getElem h2, h, e]
theorem u8_ne {a b : UInt8} : ((a.toNat : Int) != (b.toNat : Int)) = !(decide (a = b)) := by
  by_cases h : a = b
  · subst h; simp
  · have : (a.toNat : Int) ≠ b.toNat := fun e => h (UInt8.toNat_inj.1 (by omega))
    simp [h, this]

set_option maxHeartbeats 400000 in
theorem eqByteS_any (a b : Option Addr) (la lb ca cb : Nat) (l m : List UInt8) (w : World) (hl : la ≤ 1048576) (hlb : lb ≤ 1048576) (ha : SlB w w.heap.size a la l) (hb : SlB w w.heap.size b lb m) :
    Calls Tryz.prog 11 #[.slice a la ca, .slice b lb cb] w fun e w' => e = .returned (.bool (decide (l = m))) ∧ Below w.heap.size w w' := by
  have HA := hide ha
  have HB := hide hb
  clear ha hb
  by_cases hne : la = lb
  · subst hne
    have d1 : ((la : Int) != (la : Int)) = false := by simp
    go_enter Tryz.func11, Tryz.ntmps11
    go_wp2_with fail
    go_loopw [5] (fun i w' => ∃ (k : Nat), k ≤ la ∧ i = .int .i64 k ∧ Hid (Below w.heap.size w w') ∧ Hid (l.take k = m.take k)) (fun i _ => la - (intOf i).toNat)
    case atStart => exact ⟨0, Nat.zero_le _, rfl, hide (Below.refl _ _), hide (by simp)⟩
    case round =>
      obtain ⟨k, hk, rfl, hbel, hF⟩ := hrel
      by_cases hlt : k < la
      · obtain ⟨b1, o1, rfl, _, _, r1⟩ := ((unhide HA).keep (unhide hbel)).at hlt
        obtain ⟨b2, o2, rfl, _, _, r2⟩ := ((unhide HB).keep (unhide hbel)).at hlt
        have k1 : k < l.length := by rw [← (unhide HA).1]; exact hlt
        have k2 : k < m.length := by rw [← (unhide HB).1]; exact hlt
        have c1 := r1 k k1
        have c2 := r2 k k2
        have hne := u8_ne (a := l[k]) (b := m[k])
        have hst := hide (eq_take l m k k1 k2 (unhide hF))
        have hno := hide (show l[k] ≠ m[k] → l ≠ m by intro h e; subst e; exact h rfl)
        clear r1 r2
        generalize l[k] = A at c1 hne hst hno
        generalize m[k] = D at c2 hne hst hno
        unfold byteV at c1 c2
        have i0 : (0 : Int) ≤ (k : Int) := by omega
        have i1 : (k : Int) < (la : Int) := by omega
        by_cases hAD : A = D
        · rw [decide_eq_true hAD] at hne
          have hne' : ((A.toNat : Int) != (D.toNat : Int)) = false := hne
          clear hne
          go_wp2_with fail
          go_quiet (fail)
          go_wp2_with fail
          exact ⟨⟨k + 1, by omega, by go_num, hide (bDr (unhide hbel) _), hide (unhide hst hAD)⟩, by simp [intOf]; omega⟩
        · rw [decide_eq_false hAD] at hne
          have hne' : ((A.toNat : Int) != (D.toNat : Int)) = true := hne
          clear hne
          go_wp2_with fail
          go_quiet (fail)
          go_wp2_with fail
          go_ret
          exact ⟨ret_bool (by rw [decide_eq_false (unhide hno hAD)]), bDr (unhide hbel) _⟩
      · go_wp2_with fail
        go_ret
        have e : k = la := by omega
        have := unhide hF
        rw [e, List.take_of_length_le (Nat.le_of_eq (unhide HA).1.symm), List.take_of_length_le (Nat.le_of_eq (unhide HB).1.symm)] at this
        exact ⟨ret_bool (by rw [decide_eq_true this]), unhide hbel⟩
  · have d1 : ((la : Int) != (lb : Int)) = true := by simp; omega
    go_enter Tryz.func11, Tryz.ntmps11
    go_wp2_with fail
    go_ret
    exact ⟨ret_bool (by rw [decide_eq_false]; intro e; rw [(unhide HA).1, (unhide HB).1, e] at hne; exact hne rfl), Below.refl _ _⟩

/-- The byte that is marked in place i. -/
def markV (k : Int) (i : Nat) : Value := .int .u8 (IntKind.u8.wrap (k + (i : Int)))
/-- The first n cells bear the marks from k on. -/
def MarkedTo (C : Array Value) (k : Int) (n : Nat) : Prop := ∀ i, i < n → C[i]? = some (markV k i)
theorem MarkedTo.set {C : Array Value} {k : Int} {n : Nat} (h : MarkedTo C k n) (hn : n < C.size) : MarkedTo (C.setIfInBounds n (markV k n)) k (n + 1) := by
  intro i hi
  by_cases e : i = n
  · subst e; simp [hn]
  · rw [Array.getElem?_setIfInBounds, if_neg (by omega)]; exact h i (by omega)

end Go.Proofs.YtdflnjjomljgmaaGreatDoor.D
