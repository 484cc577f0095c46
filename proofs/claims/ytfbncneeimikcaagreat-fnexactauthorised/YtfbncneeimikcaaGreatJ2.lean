/- WRow, QName, one behind the other. -/
import Derived.Test.YtfbncneeimikcaaGreatJ1
import Derived.Laws.Rows
import Derived.Laws.MakeOwn
import Derived.Test.YtfbncneeimikcaaGreatJ0
import Derived.Laws.IdiomStrings
import Derived.Laws.Closers25
/- WRow, ported from seat 1a. -/
namespace Go.Proofs.YtfbncneeimikcaaGreat.V
open Go.RowKit

/-- An atom as numbers and texts. -/
structure AtomT where
  x : Int
  n : Int
  t : ByteArray
  y : ByteArray

def AtomT.v (a : AtomT) : Value := .agg #[.int .i64 a.x, .int .i64 a.n, .string a.t, .string a.y]
structure AtomT.Ok (a : AtomT) : Prop where
  n8 : -9223372036854775808 ≤ a.n
  n9 : a.n ≤ 9223372036854775807
  t9 : a.t.size ≤ maxLen
  y9 : a.y.size ≤ maxLen

/-- Four cells from o on. -/
structure AtomIn (w : World) (b o : Nat) (a : AtomT) : Prop where
  c0 : w.cell? ⟨b, o, none⟩ = some (.int .i64 a.x)
  c1 : w.cell? ⟨b, o + 1, none⟩ = some (.int .i64 a.n)
  c2 : w.cell? ⟨b, o + 2, none⟩ = some (.string a.t)
  c3 : w.cell? ⟨b, o + 3, none⟩ = some (.string a.y)

theorem AtomIn.keep {w w1 : World} {b o : Nat} {a : AtomT} (h : AtomIn w b o a) (z : b < w.heap.size) (hb : Below w.heap.size w w1) : AtomIn w1 b o a :=
  ⟨cellB hb z h.c0, cellB hb z h.c1, cellB hb z h.c2, cellB hb z h.c3⟩

structure AtomRow (w : World) (b off : Nat) (l : List AtomT) : Prop where
  z : b < w.heap.size
  c : ∀ i (h : i < l.length), AtomIn w b (off + i * 4) l[i]
theorem AtomRow.keep {w w1 : World} {b off : Nat} {l : List AtomT} (h : AtomRow w b off l) (hb : Below w.heap.size w w1) : AtomRow w1 b off l :=
  ⟨Nat.lt_of_lt_of_le h.z hb.size, fun i hi => (h.c i hi).keep h.z hb⟩

structure StrRow (w : World) (b off : Nat) (l : List ByteArray) : Prop where
  z : b < w.heap.size
  c : ∀ i (h : i < l.length), w.cell? ⟨b, off + i, none⟩ = some (.string l[i])
theorem StrRow.keep {w w1 : World} {b off : Nat} {l : List ByteArray} (h : StrRow w b off l) (hb : Below w.heap.size w w1) : StrRow w1 b off l :=
  ⟨Nat.lt_of_lt_of_le h.z hb.size, fun i hi => cellB hb h.z (h.c i hi)⟩

/-- The slice a, len reads as l. -/
def SlA (w : World) (a : Option Addr) (len : Nat) (l : List AtomT) : Prop := len = l.length ∧ (l = [] ∨ ∃ b off, a = some ⟨b, off, none⟩ ∧ AtomRow w b off l)
def SlS (w : World) (a : Option Addr) (len : Nat) (l : List ByteArray) : Prop := len = l.length ∧ (l = [] ∨ ∃ b off, a = some ⟨b, off, none⟩ ∧ StrRow w b off l)
theorem SlA.keep {w w1 : World} {a : Option Addr} {len : Nat} {l : List AtomT} (h : SlA w a len l) (hb : Below w.heap.size w w1) : SlA w1 a len l :=
  ⟨h.1, by
    rcases h.2 with e | ⟨b, off, e, r⟩
    · exact .inl e
    · exact .inr ⟨b, off, e, r.keep hb⟩⟩
theorem SlS.keep {w w1 : World} {a : Option Addr} {len : Nat} {l : List ByteArray} (h : SlS w a len l) (hb : Below w.heap.size w w1) : SlS w1 a len l :=
  ⟨h.1, by
    rcases h.2 with e | ⟨b, off, e, r⟩
    · exact .inl e
    · exact .inr ⟨b, off, e, r.keep hb⟩⟩
theorem SlA.at {w : World} {a : Option Addr} {len : Nat} {l : List AtomT} (h : SlA w a len l) {k : Nat} (hk : k < len) : ∃ b off, a = some ⟨b, off, none⟩ ∧ AtomRow w b off l := by
  rcases h.2 with e | e
  · rw [h.1, e] at hk; simp at hk
  · exact e
theorem SlS.at {w : World} {a : Option Addr} {len : Nat} {l : List ByteArray} (h : SlS w a len l) {k : Nat} (hk : k < len) : ∃ b off, a = some ⟨b, off, none⟩ ∧ StrRow w b off l := by
  rcases h.2 with e | e
  · rw [h.1, e] at hk; simp at hk
  · exact e

/-- Block b holds the cells C. -/
def RowIs (w : World) (b : Nat) (C : Array Value) (T : TypeId) : Prop := w.heap[b]? = some (.cells C T (0, 0))
theorem RowIs.cell {w : World} {b : Nat} {C : Array Value} {T : TypeId} (h : RowIs w b C T) (o : Nat) : w.cell? ⟨b, o, none⟩ = C[o]? := by
  unfold RowIs at h; simp [World.cell?, h]
theorem RowIs.froz {w : World} {b : Nat} {C : Array Value} {T : TypeId} (h : RowIs w b C T) (o : Nat) : w.frozen? ⟨b, o, none⟩ = false := by
  unfold RowIs at h; simp [World.frozen?, h]
theorem RowIs.lt {w : World} {b : Nat} {C : Array Value} {T : TypeId} (h : RowIs w b C T) : b < w.heap.size := by
  unfold RowIs at h; exact (Array.getElem?_eq_some_iff.1 h).1
theorem RowIs.keep {w w1 : World} {b : Nat} {C : Array Value} {T : TypeId} (h : RowIs w b C T) (hb : Below w.heap.size w w1) : RowIs w1 b C T := by
  have hl := h.lt
  unfold RowIs at *; rw [hb.block b hl]; exact h
theorem RowIs.set {w : World} {b : Nat} {C : Array Value} {T : TypeId} (h : RowIs w b C T) (o : Nat) (v : Value) : RowIs (w.setCell ⟨b, o, none⟩ v) b (C.setIfInBounds o v) T :=
  heap_setCell_same w b o C T v h
theorem RowIs.new (w : World) (C : Array Value) (T : TypeId) : RowIs (w.alloc (.cells C T)) w.heap.size C T := by
  unfold RowIs; show (w.heap.push _)[w.heap.size]? = _; simp

/-- The first k atoms of l lie in C. -/
def Filled (C : Array Value) (l : List AtomT) (k : Nat) : Prop :=
  ∀ i (h : i < l.length), i < k → C[i * 4]? = some (.int .i64 l[i].x) ∧ C[i * 4 + 1]? = some (.int .i64 l[i].n) ∧ C[i * 4 + 2]? = some (.string l[i].t) ∧ C[i * 4 + 3]? = some (.string l[i].y)
def set4 (C : Array Value) (k : Nat) (a : AtomT) : Array Value :=
  (((C.setIfInBounds (k * 4) (.int .i64 a.x)).setIfInBounds (k * 4 + 1) (.int .i64 a.n)).setIfInBounds (k * 4 + 2) (.string a.t)).setIfInBounds (k * 4 + 3) (.string a.y)
theorem size_set4 (C : Array Value) (k : Nat) (a : AtomT) : (set4 C k a).size = C.size := by simp [set4]
theorem Filled.set {C : Array Value} {l : List AtomT} {k : Nat} (h : Filled C l k) (hk : k < l.length) (hC : C.size = l.length * 4) : Filled (set4 C k l[k]) l (k + 1) := by
  intro i hi hik
  unfold set4
  by_cases e : i = k
  · subst e
    have s0 : i * 4 < C.size := by omega
    have s1 : i * 4 + 1 < C.size := by omega
    have s2 : i * 4 + 2 < C.size := by omega
    have s3 : i * 4 + 3 < C.size := by omega
    simp [s0, s1, s2, s3]
  · have := h i hi (by omega)
    simp only [Array.getElem?_setIfInBounds]
    repeat rw [if_neg (by omega)]
    exact this
theorem Filled.row {w : World} {b : Nat} {C : Array Value} {T : TypeId} {l : List AtomT} (h : Filled C l l.length) (hr : RowIs w b C T) : AtomRow w b 0 l :=
  ⟨hr.lt, fun i hi => by
    obtain ⟨h0, h1, h2, h3⟩ := h i hi hi
    refine ⟨?_, ?_, ?_, ?_⟩
    · rw [Nat.zero_add, hr.cell]; exact h0
    · rw [Nat.zero_add, hr.cell]; exact h1
    · rw [Nat.zero_add, hr.cell]; exact h2
    · rw [Nat.zero_add, hr.cell]; exact h3⟩

def FilledS (C : Array Value) (l : List ByteArray) (k : Nat) : Prop := ∀ i (h : i < l.length), i < k → C[i]? = some (.string l[i])
theorem FilledS.set {C : Array Value} {l : List ByteArray} {k : Nat} (h : FilledS C l k) (hk : k < l.length) (hC : C.size = l.length) : FilledS (C.setIfInBounds k (.string l[k])) l (k + 1) := by
  intro i hi hik
  by_cases e : i = k
  · subst e
    have s0 : i < C.size := by omega
    simp [s0]
  · have := h i hi (by omega)
    rw [Array.getElem?_setIfInBounds, if_neg (by omega)]
    exact this
theorem FilledS.row {w : World} {b : Nat} {C : Array Value} {T : TypeId} {l : List ByteArray} (h : FilledS C l l.length) (hr : RowIs w b C T) : StrRow w b 0 l :=
  ⟨hr.lt, fun i hi => by rw [Nat.zero_add, hr.cell]; exact h i hi hi⟩
theorem cell_setOther {w : World} {b b' o o' : Nat} (v : Value) (h : b ≠ b') : (w.setCell ⟨b', o', none⟩ v).cell? ⟨b, o, none⟩ = w.cell? ⟨b, o, none⟩ :=
  World.cell?_of_block (heap_setCell_other w ⟨b', o', none⟩ b v h)
theorem AtomRow.setOther {w : World} {b off : Nat} {l : List AtomT} (hr : AtomRow w b off l) {b' o' : Nat} (v : Value) (h : b ≠ b') : AtomRow (w.setCell ⟨b', o', none⟩ v) b off l :=
  ⟨by simpa [World.setCell] using hr.z, fun i hi => ⟨by rw [cell_setOther v h]; exact (hr.c i hi).c0, by rw [cell_setOther v h]; exact (hr.c i hi).c1, by rw [cell_setOther v h]; exact (hr.c i hi).c2, by rw [cell_setOther v h]; exact (hr.c i hi).c3⟩⟩
theorem StrRow.setOther {w : World} {b off : Nat} {l : List ByteArray} (hr : StrRow w b off l) {b' o' : Nat} (v : Value) (h : b ≠ b') : StrRow (w.setCell ⟨b', o', none⟩ v) b off l :=
  ⟨by simpa [World.setCell] using hr.z, fun i hi => by rw [cell_setOther v h]; exact hr.c i hi⟩
theorem RowIs.setOther {w : World} {b : Nat} {C : Array Value} {T : TypeId} (h : RowIs w b C T) {b' o' : Nat} (u : Value) (hn : b ≠ b') : RowIs (w.setCell ⟨b', o', none⟩ u) b C T := by
  unfold RowIs at *; rw [heap_setCell_other w ⟨b', o', none⟩ b u hn]; exact h
theorem RowIs.at {w : World} {b : Nat} {C : Array Value} {T : TypeId} (h : RowIs w b C T) {o : Nat} {v : Value} (e : C[o]? = some v) : w.cell? ⟨b, o, none⟩ = some v := by rw [h.cell]; exact e

/-- A value as numbers, texts and lists. -/
structure ValT where
  k : Int
  a : AtomT
  items : List AtomT
  names : List ByteArray
structure ValT.Ok (v : ValT) : Prop where
  a : v.a.Ok
  items : ∀ q ∈ v.items, AtomT.Ok q
  names : ∀ q ∈ v.names, ByteArray.size q ≤ maxLen

/-- The seven cells of a value in block b; s1, s2: its two slices. -/
structure ValAt (w : World) (b : Nat) (v : ValT) (s1 s2 : Value) : Prop where
  c0 : w.cell? ⟨b, 0, none⟩ = some (.int .i64 v.k)
  c1 : w.cell? ⟨b, 1, none⟩ = some (.int .i64 v.a.x)
  c2 : w.cell? ⟨b, 2, none⟩ = some (.int .i64 v.a.n)
  c3 : w.cell? ⟨b, 3, none⟩ = some (.string v.a.t)
  c4 : w.cell? ⟨b, 4, none⟩ = some (.string v.a.y)
  c5 : w.cell? ⟨b, 5, none⟩ = some s1
  c6 : w.cell? ⟨b, 6, none⟩ = some s2
  z : b < w.heap.size
theorem ValAt.keep {w w1 : World} {b : Nat} {v : ValT} {s1 s2 : Value} (h : ValAt w b v s1 s2) (hb : Below w.heap.size w w1) : ValAt w1 b v s1 s2 :=
  ⟨cellB hb h.z h.c0, cellB hb h.z h.c1, cellB hb h.z h.c2, cellB hb h.z h.c3, cellB hb h.z h.c4, cellB hb h.z h.c5, cellB hb h.z h.c6, Nat.lt_of_lt_of_le h.z hb.size⟩
theorem ValAt.setOther {w : World} {b : Nat} {v : ValT} {s1 s2 : Value} (h : ValAt w b v s1 s2) {b' o' : Nat} (u : Value) (hn : b ≠ b') : ValAt (w.setCell ⟨b', o', none⟩ u) b v s1 s2 :=
  ⟨by rw [cell_setOther u hn]; exact h.c0, by rw [cell_setOther u hn]; exact h.c1, by rw [cell_setOther u hn]; exact h.c2, by rw [cell_setOther u hn]; exact h.c3, by rw [cell_setOther u hn]; exact h.c4,
    by rw [cell_setOther u hn]; exact h.c5, by rw [cell_setOther u hn]; exact h.c6, by simpa [World.setCell] using h.z⟩
theorem ValAt.new (w : World) (v : ValT) (s1 s2 : Value) (T : TypeId) : ValAt (w.alloc (.cells #[.int .i64 v.k, .int .i64 v.a.x, .int .i64 v.a.n, .string v.a.t, .string v.a.y, s1, s2] T)) w.heap.size v s1 s2 :=
  ⟨World.cell?_alloc_mark w _ _ _ 0, World.cell?_alloc_mark w _ _ _ 1, World.cell?_alloc_mark w _ _ _ 2, World.cell?_alloc_mark w _ _ _ 3, World.cell?_alloc_mark w _ _ _ 4, World.cell?_alloc_mark w _ _ _ 5, World.cell?_alloc_mark w _ _ _ 6, by simp⟩
theorem ValAt.more {w : World} {b : Nat} {v : ValT} {s1 s2 : Value} (h : ValAt w b v s1 s2) (o : Obj) : ValAt (w.alloc o) b v s1 s2 := h.keep (bAl (Below.refl _ _) o)
theorem ValAt.new1 (w : World) (o : Obj) (v : ValT) (s1 s2 : Value) (T : TypeId) : ValAt ((w.alloc o).alloc (.cells #[.int .i64 v.k, .int .i64 v.a.x, .int .i64 v.a.n, .string v.a.t, .string v.a.y, s1, s2] T)) (w.heap.size + 1) v s1 s2 := by
  have := ValAt.new (w.alloc o) v s1 s2 T
  rw [World.size_alloc] at this
  exact this
theorem undrew {w w' : World} (h : Below w.drew.heap.size w.drew w') : Below w.heap.size w w' := ⟨h.os, h.tape, h.output, h.size, h.block⟩
theorem ValAt.seven {w w' : World} {b : Nat} {v : ValT} {s1 s2 : Value} (h : ValAt w b v s1 s2) (hb : Below w.heap.size w w') :
    w'.cell? ⟨b, 0, none⟩ = some (.int .i64 v.k) ∧ w'.cell? ⟨b, 1, none⟩ = some (.int .i64 v.a.x) ∧ w'.cell? ⟨b, 2, none⟩ = some (.int .i64 v.a.n) ∧ w'.cell? ⟨b, 3, none⟩ = some (.string v.a.t)
      ∧ w'.cell? ⟨b, 4, none⟩ = some (.string v.a.y) ∧ w'.cell? ⟨b, 5, none⟩ = some s1 ∧ w'.cell? ⟨b, 6, none⟩ = some s2 :=
  have k := h.keep hb
  ⟨k.c0, k.c1, k.c2, k.c3, k.c4, k.c5, k.c6⟩
end Go.Proofs.YtfbncneeimikcaaGreat.V
/- NAMES: spec.GoodName, impl.GoodName. -/
namespace Go.Proofs.YtfbncneeimikcaaGreat
open Go.RowKit

theorem digB_getD (s : ByteArray) (h : 0 < s.size) : ((s.data.toList[0]?.getD 0).toNat : Int) = (s[0].toNat : Int) := by
  have : s.data.toList[0]? = some s[0] := by
    rw [List.getElem?_eq_getElem (by simpa using h)]; rfl
  rw [this]; rfl

theorem goodName_of {s : ByteArray} (h1 : 1 ≤ s.size) (h2 : s.size ≤ 30) : goodName s = (!digB (s[0].toNat : Int) && s.data.toList.all okcB) := by
  have e1 : s.data.toList.length = s.size := by simp
  unfold goodName nameL
  rw [e1, digB_getD s (by omega), decide_eq_true h1, decide_eq_true h2]; simp

theorem goodName_size {s : ByteArray} (h : s.size < 1 ∨ 30 < s.size) : goodName s = false := by
  have e1 : s.data.toList.length = s.size := by simp
  unfold goodName nameL
  rw [e1]
  rcases h with h | h
  · rw [decide_eq_false (by omega)]; simp
  · rw [decide_eq_false (p := s.size ≤ 30) (by omega)]; simp

set_option maxHeartbeats 400000 in
theorem sGoodName_any (s : ByteArray) (hs : s.size ≤ maxLen) (w : World) :
    Calls Tryz.prog 51 #[.string s] w fun e w' => e = .returned (.bool (goodName s)) ∧ w = w' := by
  unfold maxLen at hs
  by_cases h1 : s.size < 1
  · have hg := hide (goodName_size (s := s) (.inl h1))
    go_enter Tryz.func51, Tryz.ntmps51
    go_wp2
    go_ret
    exact ⟨ret_bool (unhide hg).symm, rfl⟩
  by_cases h2 : 30 < s.size
  · have hg := hide (goodName_size (s := s) (.inr h2))
    go_enter Tryz.func51, Tryz.ntmps51
    go_wp2
    go_ret
    exact ⟨ret_bool (unhide hg).symm, rfl⟩
  have hg0 := goodName_of (s := s) (by omega) (by omega)
  cases hd : digB (s[0].toNat : Int)
  · rw [hd] at hg0
    have hg := hide hg0
    have H := hide hd
    clear hd hg0
    have d1 : decide ((s.size : Int) < 1) = false := by simp; omega
    have d2 : decide (30 < (s.size : Int)) = false := by simp; omega
    go_enter Tryz.func51, Tryz.ntmps51
    go_wp2_with (go_at_call 73; refine (l1Digit_any _ _).mono ?_; rintro e w' ⟨rfl, rfl⟩; rw [unhide H])
    go_loop [3] (fun i => ∃ k : Nat, k ≤ s.size ∧ i = .int .i64 k ∧ Hid ((s.data.toList.take k).all okcB = true)) (fun i => s.size - (intOf i).toNat)
    case atStart => exact ⟨0, Nat.zero_le _, rfl, hide (by simp)⟩
    case round =>
      obtain ⟨k, hk, rfl, hall⟩ := hrel
      by_cases hlt : k < s.size
      · cases hl : letB (s[k].toNat : Int) <;> cases hdd : digB (s[k].toNat : Int) <;> cases hu : ((s[k].toNat : Int) != 95)
        all_goals
          have hok : okcB s[k] = ((letB (s[k].toNat : Int) || (s[k].toNat : Int) == 95) || digB (s[k].toNat : Int)) := by
            unfold okcB; congr 1; rw [Bool.eq_iff_iff]; simp [namB, letB]
          have hu' : ((s[k].toNat : Int) == 95) = !((s[k].toNat : Int) != 95) := by simp [bne]
          rw [hl, hdd, hu', hu] at hok
          have HL := hide hl
          have HD := hide hdd
          have HU := hide hu
          have HK := hide hok
          clear hl hdd hok hu'
          go_wp2_with (first | (go_at_call 74; refine (l1Letter_any _ _).mono ?_; rintro e w' ⟨rfl, rfl⟩; rw [unhide HL]) | (go_at_call 73; refine (l1Digit_any _ _).mono ?_; rintro e w' ⟨rfl, rfl⟩; rw [unhide HD]))
          first
            | exact ⟨⟨k + 1, by omega, by go_num, hide (by rw [all_take_succ _ _ _ hlt, unhide hall, unhide HK]; rfl)⟩, by simp [intOf]; omega⟩
            | (go_ret; exact ⟨ret_bool (by rw [unhide hg, all_false_of _ s k hlt (unhide HK)]; rfl), rfl⟩)
      · go_wp2
        go_ret
        have e : k = s.size := by omega
        subst e
        refine ⟨ret_bool ?_, rfl⟩
        rw [unhide hg, ← take_whole s, unhide hall]; rfl
  · rw [hd] at hg0
    have hg := hide hg0
    have H := hide hd
    clear hd hg0
    go_enter Tryz.func51, Tryz.ntmps51
    go_wp2_with (go_at_call 73; refine (l1Digit_any _ _).mono ?_; rintro e w' ⟨rfl, rfl⟩; rw [unhide H])
    go_ret
    exact ⟨ret_bool (by rw [unhide hg]; rfl), rfl⟩

theorem isEmpty_of {s : ByteArray} (h : ¬ s.size < 1) : s.toList.isEmpty = false := by
  rw [← decide_eq_emptyBytes]
  simp only [decide_eq_false_iff_not]
  intro e; subst e; exact h (by decide)

/-- '[]byte(s)': a new row of the call's own, its cells the bytes of s. -/
theorem conv_bytes (s : ByteArray) (w : World) : ∃ cap w1, (convert 9 135 (.string s)).run Tryz.prog w = .ok (.slice (some ⟨w.heap.size, 0, none⟩) s.size cap) w1 ∧ Below w.heap.size w w1 ∧
    ∀ j (h : j < s.size), w1.cell? ⟨w.heap.size, j, none⟩ = some (.int .u8 (s[j].toNat : Int)) := by
  refine ⟨_, _, run_bytes_of_string (P := Tryz.prog) w 9 135 5 s Tryz.underlying9 Tryz.underlying135 Tryz.underlying5, ((Below.refl _ _).drew).alloc (Nat.le_refl _) _, ?_⟩
  intro j h
  have h' : w.drew.heap.size = w.heap.size := rfl
  rw [← h', World.cell?_alloc_mark]
  unfold bytesRow
  rw [Array.getElem?_append_left (by simpa using h)]
  have h2 : j < s.data.size := h
  simp only [Array.getElem?_map, Array.getElem?_eq_getElem h2, Option.map_some]
  rfl

set_option maxRecDepth 8000 in
set_option maxHeartbeats 400000 in
theorem iGoodName_any (s : ByteArray) (hs : s.size ≤ maxLen) (w : World) :
    Calls Tryz.prog 100 #[.string s] w fun e w' => e = .returned (.bool (goodName s)) ∧ Below w.heap.size w w' := by
  unfold maxLen at hs
  by_cases h1 : s.size < 1
  · have hg := hide (goodName_size (s := s) (.inl h1))
    obtain rfl : s = ByteArray.empty := ByteArray.ext (Array.eq_empty_of_size_eq_zero (by show s.size = 0; omega))
    go_enter Tryz.func100, Tryz.ntmps100
    go_wp2
    go_ret
    exact ⟨ret_bool (unhide hg).symm, Below.refl _ _⟩
  have he := isEmpty_of h1
  by_cases h2 : 30 < s.size
  · have hg := hide (goodName_size (s := s) (.inr h2))
    go_enter Tryz.func100, Tryz.ntmps100
    go_wp2
    go_ret
    exact ⟨ret_bool (unhide hg).symm, Below.refl _ _⟩
  have hg0 := goodName_of (s := s) (by omega) (by omega)
  have d2 : decide (30 < (s.size : Int)) = false := by simp; omega
  cases hd : namB (s[0].toNat : Int)
  · have hg := hide hg0
    have H := hide hd
    clear hd hg0
    go_enter Tryz.func100, Tryz.ntmps100
    go_wp2_with (go_at_call 119; refine (startsName_any _ _).mono ?_; rintro e w' ⟨rfl, rfl⟩; rw [unhide H])
    go_ret
    refine ⟨ret_bool ?_, Below.refl _ _⟩
    rw [unhide hg]
    cases hdd : digB (s[0].toNat : Int)
    · rw [all_false_of okcB s 0 (by omega) (by unfold okcB; rw [unhide H, hdd]; rfl)]; rfl
    · rfl
  · have hg := hide hg0
    have H := hide hd
    clear hd hg0
    obtain ⟨cap, w1, hrun, hbel, hcell⟩ := conv_bytes s w
    go_enter Tryz.func100, Tryz.ntmps100
    go_wp2_with (go_at_call 119; refine (startsName_any _ _).mono ?_; rintro e w' ⟨rfl, rfl⟩; rw [unhide H])
    go_loop [21] (fun i => ∃ k : Nat, k ≤ s.size ∧ i = .int .i64 k ∧ Hid ((s.data.toList.take k).all okcB = true)) (fun i => s.size - (intOf i).toNat)
    case atStart => exact ⟨0, Nat.zero_le _, rfl, hide (by simp)⟩
    case round =>
      obtain ⟨k, hk, rfl, hall⟩ := hrel
      by_cases hlt : k < s.size
      · have hck := hcell k hlt
        have hok : okcB s[k] = (namB (s[k].toNat : Int) || digB (s[k].toNat : Int)) := rfl
        clear hcell hrun
        cases hl : namB (s[k].toNat : Int) <;> cases hdd : digB (s[k].toNat : Int)
        all_goals
          rw [hl, hdd] at hok
          have HL := hide hl
          have HD := hide hdd
          have HK := hide hok
          clear hl hdd hok
          go_wp2_with (first | (go_at_call 119; refine (startsName_any _ _).mono ?_; rintro e w' ⟨rfl, rfl⟩; rw [unhide HL]) | (go_at_call 120; refine (isDigit_any _ _).mono ?_; rintro e w' ⟨rfl, rfl⟩; rw [unhide HD]))
          first
            | exact ⟨⟨k + 1, by omega, by go_num, hide (by rw [all_take_succ _ _ _ hlt, unhide hall, unhide HK]; rfl)⟩, by simp [intOf]; omega⟩
            | (go_ret; exact ⟨ret_bool (by rw [unhide hg, all_false_of _ s k hlt (unhide HK)]; simp), hbel⟩)
      · go_wp2
        go_ret
        have e : k = s.size := by omega
        subst e
        refine ⟨ret_bool ?_, hbel⟩
        have hnd : digB (s[0].toNat : Int) = false := by
          have := unhide H
          simp only [namB, digB, decide_eq_true_eq, decide_eq_false_iff_not] at this ⊢; omega
        rw [unhide hg, hnd, ← take_whole s, unhide hall]; rfl
end Go.Proofs.YtfbncneeimikcaaGreat
