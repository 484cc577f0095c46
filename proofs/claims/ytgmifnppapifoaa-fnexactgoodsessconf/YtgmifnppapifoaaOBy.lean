/- Slices of bytes in memory: sized, copied, held against themselves, read. -/
import Derived.Test.YtgmifnppapifoaaZRow
namespace Go.Proofs.Ytgmifnppapifoaa.V
set_option linter.unusedSimpArgs false
set_option linter.unusedVariables false
open Go.ChangeShapes Go.WideShapes Go.RowKit

structure BytRow (w : World) (b off : Nat) (l : List Int) : Prop where
  z : b < w.heap.size
  c : ∀ i (h : i < l.length), w.cell? ⟨b, off + i, none⟩ = some (.int .u8 l[i])
theorem BytRow.keep {w w1 : World} {b off : Nat} {l : List Int} (h : BytRow w b off l) (hb : Below w.heap.size w w1) : BytRow w1 b off l :=
  ⟨Nat.lt_of_lt_of_le h.z hb.size, fun i hi => cellB hb h.z (h.c i hi)⟩

def SlY (w : World) (a : Option Addr) (len : Nat) (l : List Int) : Prop := len = l.length ∧ (l = [] ∨ ∃ b off, a = some ⟨b, off, none⟩ ∧ BytRow w b off l)
theorem SlY.keep {w w1 : World} {a : Option Addr} {len : Nat} {l : List Int} (h : SlY w a len l) (hb : Below w.heap.size w w1) : SlY w1 a len l :=
  ⟨h.1, by
    rcases h.2 with e | ⟨b, off, e, r⟩
    · exact .inl e
    · exact .inr ⟨b, off, e, r.keep hb⟩⟩
theorem SlY.at {w : World} {a : Option Addr} {len : Nat} {l : List Int} (h : SlY w a len l) {k : Nat} (hk : k < len) : ∃ b off, a = some ⟨b, off, none⟩ ∧ BytRow w b off l := by
  rcases h.2 with e | e
  · rw [h.1, e] at hk; simp at hk
  · exact e

def FilledY (C : Array Value) (l : List Int) (k : Nat) : Prop := ∀ i (h : i < l.length), i < k → C[i]? = some (.int .u8 l[i])
theorem FilledY.set {C : Array Value} {l : List Int} {k : Nat} (h : FilledY C l k) (hk : k < l.length) (hC : C.size = l.length) : FilledY (C.setIfInBounds k (.int .u8 l[k])) l (k + 1) := by
  intro i hi hik
  by_cases e : i = k
  · subst e
    have s0 : i < C.size := by omega
    simp [s0]
  · have := h i hi (by omega)
    rw [Array.getElem?_setIfInBounds, if_neg (by omega)]
    exact this
theorem FilledY.row {w : World} {b : Nat} {C : Array Value} {T : TypeId} {l : List Int} (h : FilledY C l l.length) (hr : RowIs w b C T) : BytRow w b 0 l :=
  ⟨hr.lt, fun i hi => by rw [Nat.zero_add, hr.cell]; exact h i hi hi⟩
theorem make_byts (len : Nat) (w : World) (h : len ≤ 1048576) : ∃ w1 C, (Instr.makeSlice 22 (.int .i64 (len : Int)) (.int .i64 (len : Int))).run Try.prog w = .ok (.slice (some ⟨w.heap.size, 0, none⟩) len len) w1 ∧
    Below w.heap.size w w1 ∧ RowIs w1 w.heap.size C 5 ∧ C.size = len := by
  have hi : (Try.prog.info? 5).map (fun i => (i.zero, i.size, i.bytes)) = some (some (.int .u8 0), 1, 1) := by kernel_rfl
  obtain ⟨i, h1, h2⟩ := Option.map_eq_some_iff.1 hi
  simp only [Prod.mk.injEq] at h2
  obtain ⟨hz, hsz, hby⟩ := h2
  have hr := run_make (P := Try.prog) w 22 5 i _ Try.underlying22 h1 hz .i64 .i64 (len : Int) (len : Int) (by omega) (by omega) (by rw [hby]; omega) (by omega)
  rw [Int.toNat_natCast, hsz, Nat.mul_one] at hr
  exact ⟨_, _, hr, bAl (Below.refl _ _) _, RowIs.new _ _ _, size_madeCells _ _⟩

set_option maxHeartbeats 400000 in
theorem toByteS_f (a : Option Addr) (len cap : Nat) (l : List Int) (w : World) (hl : len ≤ 1048576) (hs : SlY w a len l) :
    Calls Try.prog 10 #[.slice a len cap] w fun e w' => e = .returned (.slice (some ⟨w.heap.size, 0, none⟩) len len) ∧ BytRow w' w.heap.size 0 l ∧ (∀ o, w'.frozen? ⟨w.heap.size, o, none⟩ = false) ∧ Below w.heap.size w w' := by
  obtain ⟨w1, C1, hrun, hb1, hr1, hC1⟩ := make_byts len w hl
  have HS := hide hs
  have HB1 := hide hb1
  have HR1 := hide hr1
  clear hs hb1 hr1
  go_enter Try.func10, Try.ntmps10
  go_wp2
  clear hrun
  go_loopw [4] (fun i w' => ∃ (k : Nat) (C : Array Value), k ≤ len ∧ i = .int .i64 k ∧ Hid (Below w.heap.size w w') ∧ Hid (RowIs w' w.heap.size C 5) ∧ Hid (C.size = len) ∧ Hid (FilledY C l k)) (fun i _ => len - (intOf i).toNat)
  case atStart => exact ⟨0, C1, Nat.zero_le _, rfl, HB1, HR1, hide hC1, hide (fun i _ h => absurd h (Nat.not_lt_zero _))⟩
  case round =>
    obtain ⟨k, C, hk, rfl, hb, hr, hC, hF⟩ := hrel
    by_cases hlt : k < len
    · obtain ⟨b, off, rfl, hrow⟩ := ((unhide HS).keep (unhide hb)).at hlt
      have hk' : k < l.length := by rw [← (unhide HS).1]; exact hlt
      have c0 := hrow.c k hk'
      have fr := (unhide hr).froz k
      have hck : k < C.size := by rw [unhide hC]; exact hlt
      have c1 := (unhide hr).cell k
      rw [Array.getElem?_eq_getElem hck] at c1
      have hz : w.heap.size < wr.heap.size := (unhide hr).lt
      have hF' := hide ((unhide hF).set hk' (by rw [unhide hC]; exact (unhide HS).1))
      clear hrow hC1
      generalize l[k] = A at c0 hF'
      generalize C[k] = D at c1
      go_wp2_with fail
      exact ⟨⟨k + 1, C.setIfInBounds k (.int .u8 A), by omega, by go_num, hide ((unhide hb).setCell (Nat.le_refl _) _), hide ((unhide hr).set k _), hide (by rw [Array.size_setIfInBounds]; exact unhide hC), hF'⟩, by simp [intOf]; omega⟩
    · go_wp2_with fail
      go_ret
      have e : k = l.length := by rw [← (unhide HS).1]; omega
      exact ⟨rfl, FilledY.row (by rw [← e]; exact unhide hF) (unhide hr), fun o => (unhide hr).froz o, unhide hb⟩
set_option maxHeartbeats 400000 in
theorem eqByteS_same (a1 a2 : Option Addr) (len1 c1 len2 c2 : Nat) (l : List Int) (w : World) (h1 : SlY w a1 len1 l) (h2 : SlY w a2 len2 l) (hm : len1 ≤ maxLen) :
    Calls Try.prog 12 #[.slice a1 len1 c1, .slice a2 len2 c2] w fun e w' => e = .returned (.bool true) ∧ Below w.heap.size w w' := by
  unfold maxLen at hm
  obtain rfl : len1 = len2 := by rw [h1.1, h2.1]
  have H1 := hide h1
  have H2 := hide h2
  clear h1 h2
  go_enter Try.func12, Try.ntmps12
  go_wp2
  go_loopw [5] (fun i w' => ∃ k : Nat, k ≤ len1 ∧ i = .int .i64 k ∧ Below w.heap.size w w') (fun i _ => len1 - (intOf i).toNat)
  case atStart => exact ⟨0, Nat.zero_le _, rfl, Below.refl _ _⟩
  case round =>
    obtain ⟨k, hk, rfl, hbel⟩ := hrel
    by_cases hlt : k < len1
    · have g1 := hide ((unhide H1).keep hbel)
      have g2 := hide ((unhide H2).keep hbel)
      have hk' : k < l.length := by rw [← (unhide H1).1]; exact hlt
      obtain ⟨b, off, rfl, r1⟩ := (unhide g1).at hlt
      obtain ⟨b', off', rfl, r2⟩ := (unhide g2).at hlt
      have p1 := r1.c k hk'
      have p2 := r2.c k hk'
      clear r1 r2 g1 g2
      generalize l[k] = A at p1 p2
      have i0 : (0 : Int) ≤ (k : Int) := by omega
      have i1 : (k : Int) < (len1 : Int) := by omega
      go_wp2_with fail
      go_quiet (fail)
      go_wp2_with fail
      exact ⟨⟨k + 1, by omega, by go_num, below_drewN hbel _⟩, by simp [intOf]; omega⟩
    · go_wp2_with fail
      go_ret
      exact ⟨rfl, hbel⟩

set_option maxHeartbeats 400000 in
theorem szByteS_any (a : Option Addr) (len cap : Nat) (left : Int) (w : World) (h0 : 0 ≤ left) (h1 : left ≤ 1048576) (hl : len ≤ maxLen) :
    Calls Try.prog 9 #[.slice a len cap, .int .i64 left] w fun e w' => (∃ m : Int, -1 ≤ m ∧ m ≤ left ∧ (0 ≤ m → (len : Int) ≤ left) ∧ e = .returned (.int .i64 m)) ∧ Below w.heap.size w w' := by
  unfold maxLen at hl
  by_cases hlen : left < (len : Int)
  · have d1 : decide (left - (len : Int) < 0) = true := by simp; omega
    go_enter Try.func9, Try.ntmps9
    go_wp2
    go_ret
    exact ⟨⟨-1, by omega, by omega, by omega, rfl⟩, Below.refl _ _⟩
  have d1 : decide (left - (len : Int) < 0) = false := by simp; omega
  go_enter Try.func9, Try.ntmps9
  go_wp2
  go_ret
  exact ⟨⟨left - len, by omega, by omega, rfl⟩, Below.refl _ _⟩
theorem BytRow.fr {w w1 : World} {lo b off : Nat} {l : List Int} (h : BytRow w b off l) (hf : Fr lo w w1) (hb : lo ≤ b) : BytRow w1 b off l :=
  ⟨Nat.lt_of_lt_of_le h.z hf.size, fun i hi => hf.cell _ _ _ hb (h.c i hi)⟩
def SqB (w : World) (lo : Nat) (h : Hd) (l : List Int) : Prop := h.len = l.length ∧ (l = [] ∨ ∃ b off, h.a = some ⟨b, off, none⟩ ∧ Lo w lo b ∧ BytRow w b off l)
theorem SqB.fr {w w1 : World} {lo : Nat} {h : Hd} {l : List Int} (s : SqB w lo h l) (hf : Fr lo w w1) : SqB w1 lo h l :=
  ⟨s.1, s.2.imp id fun ⟨b, off, e, hb, r⟩ => ⟨b, off, e, hb.fr hf r.z, r.fr hf hb.1⟩⟩
theorem SqB.lo {w : World} {lo lo' : Nat} {h : Hd} {l : List Int} (s : SqB w lo h l) (hl : lo' ≤ lo) : SqB w lo' h l :=
  ⟨s.1, s.2.imp id fun ⟨b, off, e, hb, r⟩ => ⟨b, off, e, hb.lo hl, r⟩⟩
theorem SqB.keep {w w1 : World} {lo : Nat} {h : Hd} {l : List Int} (s : SqB w lo h l) (hb : Below w.heap.size w w1) : SqB w1 lo h l := s.fr (Fr.below hb lo)
theorem SqB.sl {w : World} {lo : Nat} {h : Hd} {l : List Int} (s : SqB w lo h l) : SlY w h.a h.len l :=
  ⟨s.1, s.2.imp id fun ⟨b, off, e, _, r⟩ => ⟨b, off, e, r⟩⟩
theorem SqB.of {w : World} {a : Option Addr} {len cap : Nat} {l : List Int} (s : SlY w a len l) : SqB w 0 ⟨a, len, cap⟩ l :=
  ⟨s.1, s.2.imp id fun ⟨b, off, e, r⟩ => ⟨b, off, e, Lo.zero _ _, r⟩⟩
theorem szByteS_n (h : Hd) (l : List Int) (left : Int) (w : World) (h0 : 0 ≤ left) (h1 : left ≤ 1048576) (ho : ∀ q ∈ l, q = q) (hl : l.length ≤ maxLen) (hs : SqB w 0 h l) :
    Calls Try.prog 9 #[.slice h.a h.len h.cap, .int .i64 left] w fun e w' => (∃ m : Int, -1 ≤ m ∧ m ≤ left ∧ (0 ≤ m → l.length ≤ 1048576) ∧ e = .returned (.int .i64 m)) ∧ Below w.heap.size w w' :=
  (szByteS_any h.a h.len h.cap left w h0 h1 (by rw [hs.1]; exact hl)).mono fun _ _ ⟨⟨m, a, b, c, d⟩, k⟩ => ⟨⟨m, a, b, fun g => by have := c g; rw [hs.1] at this; omega, d⟩, k⟩
theorem toByteS_n (h : Hd) (l : List Int) (w : World) (hl : l.length ≤ 1048576) (hs : SqB w 0 h l) :
    Calls Try.prog 10 #[.slice h.a h.len h.cap] w fun e w' => (∃ h' : Hd, e = .returned (.slice h'.a h'.len h'.cap) ∧ SqB w' w.heap.size h' l) ∧ Below w.heap.size w w' :=
  (toByteS_f h.a h.len h.cap l w (by rw [hs.1]; exact hl) hs.sl).mono fun _ _ ⟨e, r, f, b⟩ => ⟨⟨⟨_, h.len, h.len⟩, e, hs.1, .inr ⟨_, _, rfl, Lo.own f, r⟩⟩, b⟩
theorem eqByteS_n (h g : Hd) (l : List Int) (w : World) (hl : l.length ≤ maxLen) (h1 : SqB w 0 h l) (h2 : SqB w 0 g l) :
    Calls Try.prog 12 #[.slice h.a h.len h.cap, .slice g.a g.len g.cap] w fun e w' => e = .returned (.bool true) ∧ Below w.heap.size w w' :=
  eqByteS_same h.a g.a h.len h.cap g.len g.cap l w h1.sl h2.sl (by rw [h1.1]; exact hl)
section
variable {H : Type} {enc : TypeId × Value → H} {w : World} {base : Nat} {sp : Nat → Bool} {held : Bool}
set_option maxRecDepth 40000 in
theorem read_byts {n len cap : Nat} {a : Option Addr} {x : DataW H × List MemPlace} (h : DataW.trod enc Try.prog w base sp held n 22 [.slice a len cap] = some x) :
    ∃ l : List Int, SlY w a len l ∧ (∀ q ∈ l, q = q) ∧ len ≤ maxLen := by
  have hc : Try.prog.cellsOf 5 = 1 := by kernel_rfl
  rcases Go.Deep.open_slice Try.underlying22 h with ⟨hcs, _⟩ | ⟨a', len', cap', m, n', D, Pl, hcs, _, hl, hm, hmm, _, hel⟩
  · simp at hcs
    obtain ⟨rfl, rfl, rfl⟩ := hcs
    exact ⟨[], ⟨rfl, .inl rfl⟩, by simp, Nat.zero_le _⟩
  · simp at hcs
    obtain ⟨rfl, rfl, rfl⟩ := hcs
    have hlm : len ≤ m := by rw [hmm]; split <;> omega
    by_cases h0 : len = 0
    · subst h0; exact ⟨[], ⟨rfl, .inl rfl⟩, by simp, Nat.zero_le _⟩
    have hspot : a'.spot = none := by
      obtain ⟨cs', h1, h2⟩ := hel 0 (by omega)
      rw [hc] at h1
      obtain ⟨s, rfl, _⟩ := DataW.trod_int Try.underlying5 h2
      have e0 := (World.cells?_some h1).2.2 0 (by omega)
      simp [Addr.add] at e0
      exact World.cell?_spot e0
    obtain ⟨b, off, spot⟩ := a'
    simp only at hspot
    subst hspot
    have hA : ∀ i, i < len → ∃ A : Int, A = A ∧ w.cell? ⟨b, off + i, none⟩ = some (.int .u8 A) ∧ b < w.heap.size := by
      intro i hi
      obtain ⟨cs', h1, h2⟩ := hel i (by omega)
      rw [hc, addr_add, Nat.mul_one] at h1
      obtain ⟨s, rfl, _⟩ := DataW.trod_int Try.underlying5 h2
      have e0 := (World.cells?_some h1).2.2 0 (by omega)
      rw [addr_add] at e0
      exact ⟨s, rfl, e0, World.block_lt_of_cell? w ⟨b, off + i + 0, none⟩ e0⟩
    obtain ⟨f, hf⟩ := @Go.Deep.choose_lt Int ⟨0⟩ len (fun i A => A = A ∧ w.cell? ⟨b, off + i, none⟩ = some (.int .u8 A) ∧ b < w.heap.size) hA
    refine ⟨(List.range len).map f, ⟨by simp, .inr ⟨b, off, rfl, (hf 0 (by omega)).2.2, fun i hi => ?_⟩⟩, ?_, by omega⟩
    · simp at hi
      have := (hf i hi).2.1
      simpa using this
    · intro q hq
      simp at hq
      obtain ⟨i, hi, rfl⟩ := hq
      rfl

theorem readsB {n len cap : Nat} {a : Option Addr} {x : DataW H × List MemPlace} (h : DataW.trod enc Try.prog w base sp held n 22 [.slice a len cap] = some x) :
    ∃ l : List Int, SqB w 0 ⟨a, len, cap⟩ l ∧ (∀ q ∈ l, q = q) ∧ l.length ≤ maxLen := by
  obtain ⟨l, s, o, m⟩ := read_byts h
  exact ⟨l, .of s, o, by rw [← s.1]; exact m⟩
end
end Go.Proofs.Ytgmifnppapifoaa.V
