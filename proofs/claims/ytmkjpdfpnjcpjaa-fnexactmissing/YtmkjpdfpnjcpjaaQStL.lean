/- Slices of stamps that came in: read, sized, copied. -/
import Derived.Test.YtmkjpdfpnjcpjaaQMsI
import Derived.Test.YtmkjpdfpnjcpjaaQRead
namespace Go.Proofs.Ytmkjpdfpnjcpjaa
open Go.ChangeShapes Go.WideShapes Go.RowKit

section
variable {H : Type} {enc : TypeId × Value → H} {w : World} {base : Nat} {sp : Nat → Bool} {held : Bool}
set_option maxRecDepth 100000 in
theorem read_stp {n : Nat} {cs : List Value} {x : DataW H × List MemPlace} (h : DataW.trod enc Try.prog w base sp held n 46 cs = some x) :
    ∃ A : Int × Int, cs = [.int .i64 A.1, .int .i64 A.2] ∧ StOk A := by
  obtain ⟨xs, m, rfl, _, hlen, hx, hf⟩ := DataW.trod_struct Try.underlying46 h
  have hc : Try.prog.cellsOf 46 = 2 := by kernel_rfl
  have k9 : Try.prog.cellsOf 3 = 1 := by kernel_rfl
  obtain ⟨c0, c1, rfl⟩ := list2 (hlen.trans hc)
  obtain ⟨x0, x1, rfl⟩ := list2 hx
  have h0 : DataW.trod enc Try.prog w base sp held m 3 [c0] = some x0 := by have := hf 0 _ rfl; simpa [k9] using this
  have h1 : DataW.trod enc Try.prog w base sp held m 3 [c1] = some x1 := by have := hf 1 _ rfl; simpa [k9] using this
  obtain ⟨s, q2, _, ws⟩ := DataW.trod_int Try.underlying3 h0
  obtain ⟨r, q3, _, wr⟩ := DataW.trod_int Try.underlying3 h1
  simp at q2 q3
  subst q2 q3
  exact ⟨(s, r), rfl, ws, wr⟩

set_option maxRecDepth 100000 in
theorem read_stps {n len cap : Nat} {a : Option Addr} {x : DataW H × List MemPlace} (h : DataW.trod enc Try.prog w base sp held n 35 [.slice a len cap] = some x) :
    ∃ l : List (Int × Int), SlSt w a len l ∧ (∀ q ∈ l, StOk q) ∧ len ≤ maxLen := by
  have hc : Try.prog.cellsOf 46 = 2 := by kernel_rfl
  rcases Go.Deep.open_slice Try.underlying35 h with ⟨hcs, _⟩ | ⟨a', len', cap', m, n', D, Pl, hcs, _, hl, hm, hmm, _, hel⟩
  · simp at hcs
    obtain ⟨rfl, rfl, rfl⟩ := hcs
    exact ⟨[], ⟨rfl, .inl rfl⟩, by simp, Nat.zero_le _⟩
  · simp at hcs
    obtain ⟨rfl, rfl, rfl⟩ := hcs
    have hlm : len ≤ m := by rw [hmm]; split <;> omega
    by_cases h0 : len = 0
    · subst h0; exact ⟨[], ⟨rfl, .inl rfl⟩, by simp, Nat.zero_le _⟩
    have hspot : a'.spot = none := by
      obtain ⟨cs', h1, h2⟩ := hel 0 (by omega)
      rw [hc] at h1
      obtain ⟨A, rfl, _⟩ := read_stp h2
      have e0 := (World.cells?_some h1).2.2 0 (by omega)
      simp [Addr.add] at e0
      exact World.cell?_spot e0
    obtain ⟨b, off, spot⟩ := a'
    simp only at hspot
    subst hspot
    have hA : ∀ i, i < len → ∃ A : Int × Int, StOk A ∧ (w.cell? ⟨b, off + i * 2, none⟩ = some (.int .i64 A.1) ∧ w.cell? ⟨b, off + i * 2 + 1, none⟩ = some (.int .i64 A.2)) ∧ b < w.heap.size := by
      intro i hi
      obtain ⟨cs', h1, h2⟩ := hel i (by omega)
      rw [hc, addr_add] at h1
      obtain ⟨A, rfl, hok⟩ := read_stp h2
      have h3 := (World.cells?_some h1).2.2
      have e0 := h3 0 (by omega)
      have e1 := h3 1 (by omega)
      rw [addr_add] at e0 e1
      exact ⟨A, hok, ⟨e0, e1⟩, World.block_lt_of_cell? w ⟨b, off + i * 2 + 0, none⟩ e0⟩
    obtain ⟨f, hf⟩ := @Go.Deep.choose_lt (Int × Int) ⟨(0, 0)⟩ len (fun i A => StOk A ∧ (w.cell? ⟨b, off + i * 2, none⟩ = some (.int .i64 A.1) ∧ w.cell? ⟨b, off + i * 2 + 1, none⟩ = some (.int .i64 A.2)) ∧ b < w.heap.size) hA
    refine ⟨(List.range len).map f, ⟨by simp, .inr ⟨b, off, rfl, (hf 0 (by omega)).2.2, fun i hi => ?_, fun i hi => ?_⟩⟩, ?_, by omega⟩
    · simp at hi
      have := (hf i hi).2.1.1
      simpa using this
    · simp at hi
      have := (hf i hi).2.1.2
      simpa using this
    · intro q hq
      simp at hq
      obtain ⟨i, hi, rfl⟩ := hq
      exact (hf i hi).1

set_option maxRecDepth 100000 in
/-- A slice of parts that came in. -/
theorem read_sts {r : Reach} {b0 : Nat} {v0 : Value} {d : DataW H} {p : List MemPlace} (hv : Value.okWide Try.prog w r b0 35 v0) (h : DataW.Trod enc Try.prog w base sp held 35 v0 d p) :
    ∃ (l : List (Int × Int)) (a : Option Addr) (len cap : Nat), v0 = .slice a len cap ∧ SlSt w a len l ∧ (∀ q ∈ l, StOk q) ∧ len ≤ maxLen := by
  obtain ⟨fuel, hf0⟩ := h
  obtain ⟨a, len, cap, rfl⟩ := okWide_slice Try.underlying35 hv
  obtain ⟨l, h1, h2, h3⟩ := read_stps hf0
  exact ⟨l, a, len, cap, rfl, h1, h2, h3⟩
end

theorem szStampS_any (a : Option Addr) (len cap : Nat) (l : List (Int × Int)) (left : Int) (w : World) (h0 : 0 ≤ left) (h1 : left ≤ 1048576) (hl : len ≤ maxLen) (_hs : SlSt w a len l) (_hok : ∀ q ∈ l, StOk q) :
    Calls Try.prog 19 #[.slice a len cap, .int .i64 left] w fun e w' => (∃ m : Int, -1 ≤ m ∧ m ≤ left ∧ (0 ≤ m → (len : Int) ≤ left) ∧ e = .returned (.int .i64 m)) ∧ Below w.heap.size w w' := by
  unfold maxLen at hl
  clear _hs _hok
  by_cases hlen : left < (len : Int)
  · go_enter Try.func19, Try.ntmps19
    go_wp2
    go_ret
    exact ⟨⟨-1, by omega, by omega, by omega, rfl⟩, Below.refl _ _⟩
  · have d1 : decide (left - (len : Int) < 0) = false := by simp; omega
    go_enter Try.func19, Try.ntmps19
    go_wp2
    go_ret
    exact ⟨⟨left - (len : Int), by omega, by omega, rfl⟩, Below.refl _ _⟩

theorem make_stamps (len : Nat) (w : World) (h : len ≤ 1048576) : ∃ w1 C, (Instr.makeSlice 30 (.int .i64 (len : Int)) (.int .i64 (len : Int))).run Try.prog w = .ok (.slice (some ⟨w.heap.size, 0, none⟩) len len) w1 ∧
    Below w.heap.size w w1 ∧ RowIs w1 w.heap.size C 41 ∧ C.size = len * 2 := by
  obtain ⟨i, h1, h2⟩ := Option.map_eq_some_iff.1 info_stamp
  simp only [Prod.mk.injEq] at h2
  obtain ⟨hz, hsz, hby⟩ := h2
  have hr := run_make (P := Try.prog) w 30 41 i _ Try.underlying30 h1 hz .i64 .i64 (len : Int) (len : Int) (by omega) (by omega) (by rw [hby]; omega) (by omega)
  rw [Int.toNat_natCast, hsz] at hr
  exact ⟨_, _, hr, bAl (Below.refl _ _) _, RowIs.new _ _ _, size_madeCells _ _⟩
def FilledSt (C : Array Value) (l : List (Int × Int)) (k : Nat) : Prop := ∀ i (h : i < l.length), i < k → C[i * 2]? = some (.int .i64 l[i].1) ∧ C[i * 2 + 1]? = some (.int .i64 l[i].2)
theorem FilledSt.set {C : Array Value} {l : List (Int × Int)} {k : Nat} (h : FilledSt C l k) (hk : k < l.length) (hC : C.size = l.length * 2) : FilledSt ((C.setIfInBounds (k * 2) (.int .i64 l[k].1)).setIfInBounds (k * 2 + 1) (.int .i64 l[k].2)) l (k + 1) := by
  intro i hi hik
  by_cases e : i = k
  · subst e
    have s0 : i * 2 < C.size := by omega
    have s1 : i * 2 + 1 < C.size := by omega
    simp [s0, s1]
  · have := h i hi (by omega)
    simp only [Array.getElem?_setIfInBounds]
    repeat rw [if_neg (by omega)]
    exact this
theorem FilledSt.row {w : World} {b : Nat} {C : Array Value} {T : TypeId} {l : List (Int × Int)} (h : FilledSt C l l.length) (hr : RowIs w b C T) : StRow w b 0 l :=
  ⟨hr.lt, fun i hi => by rw [Nat.zero_add, hr.cell]; exact (h i hi hi).1, fun i hi => by rw [Nat.zero_add, hr.cell]; exact (h i hi hi).2⟩

set_option maxRecDepth 100000 in
set_option maxHeartbeats 1000000 in
theorem toStampS_own (a : Option Addr) (len cap : Nat) (l : List (Int × Int)) (w : World) (hl : len ≤ 1048576) (hs : SlSt w a len l) :
    Calls Try.prog 21 #[.slice a len cap] w fun e w' => e = .returned (.slice (some ⟨w.heap.size, 0, none⟩) len len) ∧ (∃ C, RowIs w' w.heap.size C 41 ∧ C.size = len * 2 ∧ StRow w' w.heap.size 0 l) ∧ Below w.heap.size w w' := by
  obtain ⟨w1, C1, hrun, hb1, hr1, hC1⟩ := make_stamps len w hl
  have HS := hide hs
  have HB1 := hide hb1
  have HR1 := hide hr1
  clear hs hb1 hr1
  go_enter Try.func21, Try.ntmps21
  go_wp2
  clear hrun
  go_loopw [4] (fun i w' => ∃ (k : Nat) (C : Array Value), k ≤ len ∧ i = .int .i64 k ∧ Hid (Below w.heap.size w w') ∧ Hid (RowIs w' w.heap.size C 41) ∧ Hid (C.size = len * 2) ∧ Hid (FilledSt C l k)) (fun i _ => len - (Go.RowKit.intOf i).toNat)
  case atStart => exact ⟨0, C1, Nat.zero_le _, rfl, HB1, HR1, hide hC1, hide (fun i _ h => absurd h (Nat.not_lt_zero _))⟩
  case round =>
    obtain ⟨k, C, hk, rfl, hb, hr, hC, hF⟩ := hrel
    by_cases hlt : k < len
    · obtain ⟨b, off, rfl, hrow⟩ := ((unhide HS).keep (unhide hb)).at hlt
      have hk' : k < l.length := by rw [← (unhide HS).1]; exact hlt
      have c0 := hrow.c0 k hk'
      have c1 := hrow.c1 k hk'
      have hF' := hide ((unhide hF).set hk' (by rw [unhide hC, (unhide HS).1]))
      clear hrow hC1
      generalize l[k] = A at c0 c1 hF'
      go_wp2_with fail
      refine (toStamp_any A.1 A.2 _).mono ?_
      rintro e w2 ⟨rfl, hb2⟩
      replace hr := hide ((unhide hr).keep hb2)
      replace hb := hide (bTr (unhide hb) hb2)
      have f0 := (unhide hr).froz (k * 2)
      have f1 := (unhide hr).froz (k * 2 + 1)
      have s3 : k * 2 + 1 < C.size := by rw [unhide hC]; omega
      have g0 := (unhide hr).cell (k * 2)
      have g1 := (unhide hr).cell (k * 2 + 1)
      rw [Array.getElem?_eq_getElem (by omega)] at g0 g1
      generalize C[k * 2] = D0 at g0
      generalize C[k * 2 + 1] = D1 at g1
      clear c0 c1 hb2
      go_wp2_with fail
      refine ⟨⟨k + 1, _, by omega, by go_num, hide ?_, hide (((unhide hr).set _ _).set _ _), hide (by simp; exact unhide hC), hF'⟩, by simp [Go.RowKit.intOf]; omega⟩
      repeat refine bSet ?_ _ _ (Nat.le_refl _) _
      exact unhide hb
    · go_wp2_with fail
      go_ret
      have e : k = l.length := by rw [← (unhide HS).1]; omega
      exact ⟨rfl, ⟨C, unhide hr, unhide hC, FilledSt.row (by rw [← e]; exact unhide hF) (unhide hr)⟩, unhide hb⟩
end Go.Proofs.Ytmkjpdfpnjcpjaa
