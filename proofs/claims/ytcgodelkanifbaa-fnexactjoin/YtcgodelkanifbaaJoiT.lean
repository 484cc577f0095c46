/- spec.Join and impl.Join at any length; laws.toShare, toShareS, eqShareS; what came in, read. -/
import Derived.Test.YtcgodelkanifbaaJoiS
import Derived.ProofKit
import Derived.Deep.Slices
namespace Go.Proofs.Ytcgodelkanifbaa
open Go.ChangeShapes Go.WideShapes Go.RowKit

theorem sJoin_no (a : Option Addr) (len cap : Nat) (w : World) (h : len < 1 ∨ 20 < len) (hm : len ≤ 1048576) :
    Calls Try.prog 22 #[.slice a len cap] w fun e w' => e = .returned (.tuple #[.int .i64 0, .bool false]) ∧ w = w' := by
  rcases h with h | h
  · obtain rfl : len = 0 := by omega
    go_enter Try.func22, Try.ntmps22
    go_wp2_with fail
    go_ret2
    exact ⟨rfl, rfl⟩
  · have d1 : decide ((len : Int) < 1) = false := by simp; omega
    have d2 : decide ((20 : Int) < (len : Int)) = true := by simp; omega
    go_enter Try.func22, Try.ntmps22
    go_wp2_with fail
    go_ret2
    exact ⟨rfl, rfl⟩
theorem joinIs_no {l : List (Int × Int)} {len : Nat} (hl : len = l.length) (h : len < 1 ∨ 20 < len) : JoinIs l 0 false := .inr ⟨rfl, fun ⟨h1, h2, _⟩ => by omega, rfl⟩
theorem sJoin_any (b off len : Nat) (l : List (Int × Int)) (w : World) (hl : len = l.length) (hm : len ≤ 1048576) (hs : ShRow w b off l) :
    Calls Try.prog 22 #[.slice (some ⟨b, off, none⟩) len len] w fun e w' => RetJ l e ∧ Below w.heap.size w w' := by
  by_cases h : len < 1 ∨ 20 < len
  · refine (sJoin_no _ len len w h hm).mono ?_
    rintro e w' ⟨rfl, rfl⟩
    exact ⟨⟨0, false, rfl, joinIs_no hl h⟩, Below.refl _ _⟩
  · exact sJoin_sum b off len len l w hl (by omega) (by omega) (Nat.le_refl _) hs
theorem iJoin_any (b off len : Nat) (l : List (Int × Int)) (w : World) (hl : len = l.length) (hm : len ≤ 1048576) (hs : ShRow w b off l) :
    Calls Try.prog 24 #[.slice (some ⟨b, off, none⟩) len len] w fun e w' => RetJ l e ∧ Below w.heap.size w w' := by
  by_cases h : len < 1 ∨ 20 < len
  · refine (iJoin_no _ len len w h hm).mono ?_
    rintro e w' ⟨rfl, rfl⟩
    exact ⟨⟨0, false, rfl, joinIs_no hl h⟩, Below.refl _ _⟩
  · exact iJoin_sum b off len len l w hl (by omega) (by omega) (Nat.le_refl _) hs

def SlH (w : World) (a : Option Addr) (len : Nat) (l : List (Int × Int)) : Prop := len = l.length ∧ (l = [] ∨ ∃ b off, a = some ⟨b, off, none⟩ ∧ ShRow w b off l)
theorem SlH.keep {w w1 : World} {a : Option Addr} {len : Nat} {l : List (Int × Int)} (h : SlH w a len l) (hb : Below w.heap.size w w1) : SlH w1 a len l :=
  ⟨h.1, by
    rcases h.2 with e | ⟨b, off, e, r⟩
    · exact .inl e
    · exact .inr ⟨b, off, e, r.keep hb⟩⟩
theorem SlH.at {w : World} {a : Option Addr} {len : Nat} {l : List (Int × Int)} (h : SlH w a len l) {k : Nat} (hk : k < len) : ∃ b off, a = some ⟨b, off, none⟩ ∧ ShRow w b off l := by
  rcases h.2 with e | e
  · rw [h.1, e] at hk; simp at hk
  · exact e
/-- The first k parts of l lie in C. -/
def FilledH (C : Array Value) (l : List (Int × Int)) (k : Nat) : Prop :=
  ∀ i (h : i < l.length), i < k → C[i * 2]? = some (.int .i64 l[i].1) ∧ C[i * 2 + 1]? = some (.int .i64 l[i].2)
def set2 (C : Array Value) (k : Nat) (p : Int × Int) : Array Value := (C.setIfInBounds (k * 2) (.int .i64 p.1)).setIfInBounds (k * 2 + 1) (.int .i64 p.2)
theorem size_set2 (C : Array Value) (k : Nat) (p : Int × Int) : (set2 C k p).size = C.size := by simp [set2]
theorem FilledH.set {C : Array Value} {l : List (Int × Int)} {k : Nat} (h : FilledH C l k) (hk : k < l.length) (hC : C.size = l.length * 2) : FilledH (set2 C k l[k]) l (k + 1) := by
  intro i hi hik
  unfold set2
  by_cases e : i = k
  · subst e
    have s0 : i * 2 < C.size := by omega
    have s1 : i * 2 + 1 < C.size := by omega
    simp [s0, s1]
  · have := h i hi (by omega)
    simp only [Array.getElem?_setIfInBounds]
    repeat rw [if_neg (by omega)]
    exact this
theorem FilledH.row {w : World} {b : Nat} {C : Array Value} {T : TypeId} {l : List (Int × Int)} (h : FilledH C l l.length) (hr : RowIs w b C T) : ShRow w b 0 l :=
  ⟨hr.lt, fun i hi => by rw [Nat.zero_add, hr.cell]; exact (h i hi hi).1, fun i hi => by rw [Nat.zero_add, hr.cell]; exact (h i hi hi).2⟩
theorem toShare_any (a t : Int) (w : World) :
    Calls Try.prog 38 #[.agg #[.int .i64 a, .int .i64 t]] w fun e w' => e = .returned (.agg #[.int .i64 a, .int .i64 t]) ∧ Below w.heap.size w w' := by
  go_enter Try.func38, Try.ntmps38
  go_wp2
  exact bodyPost_ret (v := .agg #[.int .i64 a, .int .i64 t]) (by simp [results, Try.results38, go_sem]) rfl ⟨rfl, bAl (bAl (bAl (Below.refl _ _) _) _) _⟩

/-- 'make([]impl.Share, len)'. -/
theorem make_shares (len : Nat) (w : World) (h : len ≤ 1048576) : ∃ w1 C, (Instr.makeSlice 37 (.int .i64 (len : Int)) (.int .i64 (len : Int))).run Try.prog w = .ok (.slice (some ⟨w.heap.size, 0, none⟩) len len) w1 ∧
    Below w.heap.size w w1 ∧ RowIs w1 w.heap.size C 52 ∧ C.size = len * 2 := by
  have hi : (Try.prog.info? 52).map (fun i => (i.zero, i.size, i.bytes)) = some (some (.agg #[.int .i64 0, .int .i64 0]), 2, 16) := by kernel_rfl
  obtain ⟨i, h1, h2⟩ := Option.map_eq_some_iff.1 hi
  simp only [Prod.mk.injEq] at h2
  obtain ⟨hz, hsz, hby⟩ := h2
  have hr := run_make (P := Try.prog) w 37 52 i _ Try.underlying37 h1 hz .i64 .i64 (len : Int) (len : Int) (by omega) (by omega) (by rw [hby]; omega) (by omega)
  rw [Int.toNat_natCast, hsz] at hr
  exact ⟨_, _, hr, bAl (Below.refl _ _) _, RowIs.new _ _ _, size_madeCells _ _⟩

set_option maxHeartbeats 400000 in
theorem toShareS_any (a : Option Addr) (len cap : Nat) (l : List (Int × Int)) (w : World) (hl : len ≤ 1048576) (hs : SlH w a len l) :
    Calls Try.prog 23 #[.slice a len cap] w fun e w' => e = .returned (.slice (some ⟨w.heap.size, 0, none⟩) len len) ∧ ShRow w' w.heap.size 0 l ∧ Below w.heap.size w w' := by
  obtain ⟨w1, C1, hrun, hb1, hr1, hC1⟩ := make_shares len w hl
  have HS := hide hs
  have HB1 := hide hb1
  have HR1 := hide hr1
  clear hs hb1 hr1
  go_enter Try.func23, Try.ntmps23
  go_wp2
  clear hrun
  go_loopw [4] (fun i w' => ∃ (k : Nat) (C : Array Value), k ≤ len ∧ i = .int .i64 k ∧ Hid (Below w.heap.size w w') ∧ Hid (RowIs w' w.heap.size C 52) ∧ Hid (C.size = len * 2) ∧ Hid (FilledH C l k)) (fun i _ => len - (intOf i).toNat)
  case atStart => exact ⟨0, C1, Nat.zero_le _, rfl, HB1, HR1, hide hC1, hide (fun i _ h => absurd h (Nat.not_lt_zero _))⟩
  case round =>
    obtain ⟨k, C, hk, rfl, hb, hr, hC, hF⟩ := hrel
    by_cases hlt : k < len
    · obtain ⟨b, off, rfl, hrow⟩ := ((unhide HS).keep (unhide hb)).at hlt
      have hk' : k < l.length := by rw [← (unhide HS).1]; exact hlt
      have c0 := hrow.c0 k hk'
      have c1 := hrow.c1 k hk'
      have hF' := hide ((unhide hF).set hk' (by rw [unhide hC, (unhide HS).1]))
      clear hrow hC1
      generalize l[k] = A at c0 c1 hF'
      go_wp2_with fail
      refine (toShare_any _ _ _).mono ?_
      rintro e w2 ⟨rfl, hb2⟩
      replace hr := hide ((unhide hr).keep hb2)
      replace hb := hide (bTr (unhide hb) hb2)
      have f0 := (unhide hr).froz (k * 2)
      have f1 := (unhide hr).froz (k * 2 + 1)
      have s3 : k * 2 + 1 < C.size := by rw [unhide hC]; omega
      have g0 := (unhide hr).cell (k * 2)
      have g1 := (unhide hr).cell (k * 2 + 1)
      rw [Array.getElem?_eq_getElem (by omega)] at g0 g1
      generalize C[k * 2] = D0 at g0
      generalize C[k * 2 + 1] = D1 at g1
      clear c0 c1 hb2
      go_wp2_with fail
      refine ⟨⟨k + 1, set2 C k A, by omega, by go_num, hide ?_, hide ?_, hide (by rw [size_set2]; exact unhide hC), hF'⟩, by simp [intOf]; omega⟩
      · exact ((unhide hb).setCell (Nat.le_refl _) _).setCell (Nat.le_refl _) _
      · exact ((unhide hr).set _ _).set _ _
    · go_wp2_with fail
      go_ret
      have e : k = l.length := by rw [← (unhide HS).1]; omega
      exact ⟨rfl, FilledH.row (by rw [← e]; exact unhide hF) (unhide hr), unhide hb⟩

set_option maxHeartbeats 400000 in
theorem eqShareS_same (a1 a2 : Option Addr) (len1 c1 len2 c2 : Nat) (l : List (Int × Int)) (w : World) (h1 : SlH w a1 len1 l) (h2 : SlH w a2 len2 l) (hm : len1 ≤ maxLen) :
    Calls Try.prog 25 #[.slice a1 len1 c1, .slice a2 len2 c2] w fun e w' => e = .returned (.bool true) ∧ Below w.heap.size w w' := by
  unfold maxLen at hm
  obtain rfl : len1 = len2 := by rw [h1.1, h2.1]
  have H1 := hide h1
  have H2 := hide h2
  clear h1 h2
  go_enter Try.func25, Try.ntmps25
  go_wp2
  go_loopw [5] (fun i w' => ∃ k : Nat, k ≤ len1 ∧ i = .int .i64 k ∧ Below w.heap.size w w') (fun i _ => len1 - (intOf i).toNat)
  case atStart => exact ⟨0, Nat.zero_le _, rfl, Below.refl _ _⟩
  case round =>
    obtain ⟨k, hk, rfl, hbel⟩ := hrel
    by_cases hlt : k < len1
    · have g1 := hide ((unhide H1).keep hbel)
      have g2 := hide ((unhide H2).keep hbel)
      have hk' : k < l.length := by rw [← (unhide H1).1]; exact hlt
      obtain ⟨b, off, rfl, r1⟩ := (unhide g1).at hlt
      obtain ⟨b', off', rfl, r2⟩ := (unhide g2).at hlt
      have p0 := r1.c0 k hk'
      have p1 := r1.c1 k hk'
      have q0 := r2.c0 k hk'
      have q1 := r2.c1 k hk'
      have z1 := r1.z
      have z2 := r2.z
      clear r1 r2 g1 g2
      generalize l[k] = A at p0 p1 q0 q1
      have ne : Nonempty (Kept wr) := ⟨⟨wr, Below.refl _ _⟩⟩
      have e0 := kept_cell z1 p0
      have e1 := kept_cell z1 p1
      have f0 := kept_cell z2 q0
      have f1 := kept_cell z2 q1
      have i0 : (0 : Int) ≤ (k : Int) := by omega
      have i1 : (k : Int) < (len1 : Int) := by omega
      go_wp2_with fail
      refine wp_region_kept (by kernel_rfl) (by kernel_rfl) ?_
      repeat (first
        | go_big_quiet_step ((go_at_call 41; exact kept_call (eqShare_same _ _ _)))
        | quiet_step ((go_at_call 41; exact kept_call (eqShare_same _ _ _))))
      refine wpQuiet_nil ?_
      rintro _ ⟨q, rfl⟩
      clear ne e0 e1 f0 f1
      obtain ⟨w3, hb3⟩ := q
      go_wp2_with fail
      exact ⟨⟨k + 1, by omega, by go_num, bTr hbel hb3⟩, by simp [intOf]; omega⟩
    · go_wp2_with fail
      go_ret
      exact ⟨rfl, hbel⟩
section
variable {H : Type} {enc : TypeId × Value → H} {w : World} {base : Nat} {sp : Nat → Bool} {held : Bool}

theorem list2 {α : Type} {l : List α} (h : l.length = 2) : ∃ a b, l = [a, b] := by
  match l, h with
  | [a, b], _ => exact ⟨a, b, rfl⟩

theorem addr_add (b off k : Nat) : (⟨b, off, none⟩ : Addr).add k = ⟨b, off + k, none⟩ := by
  unfold Addr.add; split <;> simp_all

set_option maxRecDepth 8000 in
theorem read_share {n : Nat} {cs : List Value} {x : DataW H × List MemPlace} (h : DataW.trod enc Try.prog w base sp held n 54 cs = some x) :
    ∃ A : (Int × Int), cs = [.int .i64 A.1, .int .i64 A.2] ∧ True := by
  obtain ⟨xs, m, rfl, _, hlen, hx, hf⟩ := DataW.trod_struct Try.underlying54 h
  have hc : Try.prog.cellsOf 54 = 2 := by kernel_rfl
  have k9 : Try.prog.cellsOf 3 = 1 := by kernel_rfl
  obtain ⟨c0, c1, rfl⟩ := list2 (hlen.trans hc)
  obtain ⟨x0, x1, rfl⟩ := list2 hx
  have h0 : DataW.trod enc Try.prog w base sp held m 3 [c0] = some x0 := by have := hf 0 _ rfl; simpa [k9] using this
  have h1 : DataW.trod enc Try.prog w base sp held m 3 [c1] = some x1 := by have := hf 1 _ rfl; simpa [k9] using this
  obtain ⟨s, q2, _, _⟩ := DataW.trod_int Try.underlying3 h0
  obtain ⟨r, q3, _, _⟩ := DataW.trod_int Try.underlying3 h1
  simp at q2 q3
  subst q2 q3
  exact ⟨⟨s, r⟩, rfl, trivial⟩

set_option maxRecDepth 8000 in
theorem read_shares {n len cap : Nat} {a : Option Addr} {x : DataW H × List MemPlace} (h : DataW.trod enc Try.prog w base sp held n 33 [.slice a len cap] = some x) :
    ∃ l : List (Int × Int), SlH w a len l ∧ (∀ q ∈ l, True) ∧ len ≤ maxLen := by
  have hc : Try.prog.cellsOf 54 = 2 := by kernel_rfl
  rcases Go.Deep.open_slice Try.underlying33 h with ⟨hcs, _⟩ | ⟨a', len', cap', m, n', D, Pl, hcs, _, hl, hm, hmm, _, hel⟩
  · simp at hcs
    obtain ⟨rfl, rfl, rfl⟩ := hcs
    exact ⟨[], ⟨rfl, .inl rfl⟩, by simp, Nat.zero_le _⟩
  · simp at hcs
    obtain ⟨rfl, rfl, rfl⟩ := hcs
    have hlm : len ≤ m := by rw [hmm]; split <;> omega
    by_cases h0 : len = 0
    · subst h0; exact ⟨[], ⟨rfl, .inl rfl⟩, by simp, Nat.zero_le _⟩
    have hspot : a'.spot = none := by
      obtain ⟨cs', h1, h2⟩ := hel 0 (by omega)
      rw [hc] at h1
      obtain ⟨A, rfl, _⟩ := read_share h2
      have e0 := (World.cells?_some h1).2.2 0 (by omega)
      simp [Addr.add] at e0
      exact World.cell?_spot e0
    obtain ⟨b, off, spot⟩ := a'
    simp only at hspot
    subst hspot
    have hA : ∀ i, i < len → ∃ A : (Int × Int), True ∧ (w.cell? ⟨b, off + i * 2, none⟩ = some (.int .i64 A.1) ∧ w.cell? ⟨b, off + i * 2 + 1, none⟩ = some (.int .i64 A.2)) ∧ b < w.heap.size := by
      intro i hi
      obtain ⟨cs', h1, h2⟩ := hel i (by omega)
      rw [hc, addr_add] at h1
      obtain ⟨A, rfl, hok⟩ := read_share h2
      have h3 := (World.cells?_some h1).2.2
      have e0 := h3 0 (by omega)
      have e1 := h3 1 (by omega)
      rw [addr_add] at e0 e1
      exact ⟨A, hok, ⟨e0, e1⟩, World.block_lt_of_cell? w ⟨b, off + i * 2 + 0, none⟩ e0⟩
    obtain ⟨f, hf⟩ := @Go.Deep.choose_lt (Int × Int) ⟨(0, 0)⟩ len (fun i A => True ∧ (w.cell? ⟨b, off + i * 2, none⟩ = some (.int .i64 A.1) ∧ w.cell? ⟨b, off + i * 2 + 1, none⟩ = some (.int .i64 A.2)) ∧ b < w.heap.size) hA
    refine ⟨(List.range len).map f, ⟨by simp, .inr ⟨b, off, rfl, (hf 0 (by omega)).2.2, fun i hi => ?_, fun i hi => ?_⟩⟩, ?_, by omega⟩
    · simp at hi
      have := (hf i hi).2.1.1
      simpa using this
    · simp at hi
      have := (hf i hi).2.1.2
      simpa using this
    · intro q hq
      simp at hq
      obtain ⟨i, hi, rfl⟩ := hq
      exact (hf i hi).1

set_option maxRecDepth 8000 in
/-- A slice of parts that came in. -/
theorem read_list {r : Reach} {b0 : Nat} {v0 : Value} {d : DataW H} {p : List MemPlace} (hv : Value.okWide Try.prog w r b0 33 v0) (h : DataW.Trod enc Try.prog w base sp held 33 v0 d p) :
    ∃ (l : List (Int × Int)) (a : Option Addr) (len cap : Nat), v0 = .slice a len cap ∧ SlH w a len l ∧ (∀ q ∈ l, True) ∧ len ≤ maxLen := by
  obtain ⟨fuel, hf0⟩ := h
  obtain ⟨a, len, cap, rfl⟩ := okWide_slice Try.underlying33 hv
  obtain ⟨l, h1, h2, h3⟩ := read_shares hf0
  exact ⟨l, a, len, cap, rfl, h1, h2, h3⟩
end
end Go.Proofs.Ytcgodelkanifbaa
