/- Slices of changes: laws.szDirChangeS, toDirChangeS, eqDirChangeS. -/
import Derived.Test.YtpdnimchmgbijaaQChR
import Derived.Test.YtpdnimchmgbijaaQChB
namespace Go.Proofs.Ytpdnimchmgbijaa
open Go.RowKit

def dcL (A : DcT) : List Value := [.int .i64 A.t, .int .i64 A.o, .int .i64 A.k, .int .i64 A.u, .int .i64 A.p, .string A.pa, .string A.pt, .string A.a, .string A.x]
def FilledC (C : Array Value) (l : List DcT) (k : Nat) : Prop := ∀ i (h : i < l.length), i < k → ∀ j v, (dcL l[i])[j]? = some v → C[i * 9 + j]? = some v
def set9 (C : Array Value) (k : Nat) (A : DcT) : Array Value := (((((((((C.setIfInBounds (k * 9) (.int .i64 A.t)).setIfInBounds (k * 9 + 1) (.int .i64 A.o)).setIfInBounds (k * 9 + 2) (.int .i64 A.k)).setIfInBounds (k * 9 + 3) (.int .i64 A.u)).setIfInBounds (k * 9 + 4) (.int .i64 A.p)).setIfInBounds (k * 9 + 5) (.string A.pa)).setIfInBounds (k * 9 + 6) (.string A.pt)).setIfInBounds (k * 9 + 7) (.string A.a)).setIfInBounds (k * 9 + 8) (.string A.x))
theorem size_set9 (C : Array Value) (k : Nat) (A : DcT) : (set9 C k A).size = C.size := by simp [set9]
theorem set9_ne (C : Array Value) (k : Nat) (A : DcT) (n : Nat) (h : n < k * 9 ∨ k * 9 + 9 ≤ n) : (set9 C k A)[n]? = C[n]? := by
  unfold set9
  simp only [Array.getElem?_setIfInBounds]
  repeat rw [if_neg (by omega)]
theorem set9_at (C : Array Value) (k : Nat) (A : DcT) (hs : k * 9 + 8 < C.size) (j : Nat) (v : Value) (h : (dcL A)[j]? = some v) : (set9 C k A)[k * 9 + j]? = some v := by
  have hj : j < 9 := by
    have := (List.getElem?_eq_some_iff.1 h).1
    simpa [dcL] using this
  have hj' : j = 0 ∨ j = 1 ∨ j = 2 ∨ j = 3 ∨ j = 4 ∨ j = 5 ∨ j = 6 ∨ j = 7 ∨ j = 8 := by omega
  unfold set9
  simp only [Array.getElem?_setIfInBounds, Array.size_setIfInBounds]
  rcases hj' with rfl | rfl | rfl | rfl | rfl | rfl | rfl | rfl | rfl
  · rw [if_neg (by omega), if_neg (by omega), if_neg (by omega), if_neg (by omega), if_neg (by omega), if_neg (by omega), if_neg (by omega), if_neg (by omega), if_pos (by omega), if_pos (by omega)]; exact h
  · rw [if_neg (by omega), if_neg (by omega), if_neg (by omega), if_neg (by omega), if_neg (by omega), if_neg (by omega), if_neg (by omega), if_pos (by omega), if_pos (by omega)]; exact h
  · rw [if_neg (by omega), if_neg (by omega), if_neg (by omega), if_neg (by omega), if_neg (by omega), if_neg (by omega), if_pos (by omega), if_pos (by omega)]; exact h
  · rw [if_neg (by omega), if_neg (by omega), if_neg (by omega), if_neg (by omega), if_neg (by omega), if_pos (by omega), if_pos (by omega)]; exact h
  · rw [if_neg (by omega), if_neg (by omega), if_neg (by omega), if_neg (by omega), if_pos (by omega), if_pos (by omega)]; exact h
  · rw [if_neg (by omega), if_neg (by omega), if_neg (by omega), if_pos (by omega), if_pos (by omega)]; exact h
  · rw [if_neg (by omega), if_neg (by omega), if_pos (by omega), if_pos (by omega)]; exact h
  · rw [if_neg (by omega), if_pos (by omega), if_pos (by omega)]; exact h
  · rw [if_pos (by omega), if_pos (by omega)]; exact h
theorem FilledC.set {C : Array Value} {l : List DcT} {k : Nat} (h : FilledC C l k) (hk : k < l.length) (hC : C.size = l.length * 9) : FilledC (set9 C k l[k]) l (k + 1) := by
  intro i hi hik j v hj
  have hj9 : j < 9 := by
    have := (List.getElem?_eq_some_iff.1 hj).1
    simpa [dcL] using this
  by_cases e : i = k
  · subst e
    exact set9_at C i _ (by omega) j v hj
  · rw [set9_ne C k _ _ (by omega)]
    exact h i hi (by omega) j v hj
theorem FilledC.row {w : World} {b : Nat} {C : Array Value} {T : TypeId} {l : List DcT} (h : FilledC C l l.length) (hr : RowIs w b C T) : DcRow w b 0 l := by
  have g : ∀ i (hi : i < l.length) j v, (dcL l[i])[j]? = some v → w.cell? ⟨b, 0 + i * 9 + j, none⟩ = some v := fun i hi j v hj => by
    rw [Nat.zero_add, hr.cell]; exact h i hi hi j v hj
  exact ⟨hr.lt, fun i hi => g i hi 0 _ rfl, fun i hi => g i hi 1 _ rfl, fun i hi => g i hi 2 _ rfl, fun i hi => g i hi 3 _ rfl, fun i hi => g i hi 4 _ rfl, fun i hi => g i hi 5 _ rfl, fun i hi => g i hi 6 _ rfl, fun i hi => g i hi 7 _ rfl, fun i hi => g i hi 8 _ rfl⟩

set_option maxHeartbeats 400000 in
theorem szDirChangeS_any (a : Option Addr) (len cap : Nat) (l : List DcT) (left : Int) (w : World) (h0 : 0 ≤ left) (h1 : left ≤ 1048576) (hl : len ≤ maxLen) (hs : SlC w a len l) (hok : ∀ q ∈ l, DcT.Ok q) :
    Calls Try.prog 4 #[.slice a len cap, .int .i64 left] w fun e w' => (∃ m : Int, -1 ≤ m ∧ m ≤ left ∧ (0 ≤ m → (len : Int) ≤ left) ∧ e = .returned (.int .i64 m)) ∧ Below w.heap.size w w' := by
  unfold maxLen at hl
  by_cases hlen : left < (len : Int)
  · go_enter Try.func4, Try.ntmps4
    go_wp2
    go_ret
    exact ⟨⟨-1, by omega, by omega, by omega, rfl⟩, Below.refl _ _⟩
  have d1 : decide (left - (len : Int) < 0) = false := by simp; omega
  have HS := hide hs
  clear hs
  go_enter Try.func4, Try.ntmps4
  go_wp2
  go_loopw [1, 5] (fun m i w' => ∃ (k : Nat) (q : Int), k ≤ len ∧ 0 ≤ q ∧ q ≤ left ∧ i = .int .i64 k ∧ m = .int .i64 q ∧ Below w.heap.size w w') (fun _ i _ => len - (intOf i).toNat)
  case atStart => exact ⟨0, _, Nat.zero_le _, by omega, by omega, rfl, rfl, Below.refl _ _⟩
  case round =>
    obtain ⟨k, q, hk, hq1, hq2, rfl, rfl, hbel⟩ := hrel
    by_cases hlt : k < len
    · obtain ⟨b, off, rfl, hrow⟩ := ((unhide HS).keep hbel).at hlt
      have hk' : k < l.length := by rw [← (unhide HS).1]; exact hlt
      have c0 := hrow.c0 k hk'
      have c1 := hrow.c1 k hk'
      have c2 := hrow.c2 k hk'
      have c3 := hrow.c3 k hk'
      have c4 := hrow.c4 k hk'
      have c5 := hrow.c5 k hk'
      have c6 := hrow.c6 k hk'
      have c7 := hrow.c7 k hk'
      have c8 := hrow.c8 k hk'
      have ho := hok _ (List.getElem_mem hk')
      have hz := hide (fun q w h0 h1 => szDirChange_any (l[k]).t (l[k]).o (l[k]).k (l[k]).u (l[k]).p (l[k]).pa (l[k]).pt (l[k]).a (l[k]).x q w h0 h1 ho.pa9 ho.pt9 ho.a9 ho.x9)
      clear hrow ho hok
      generalize l[k] = A at hz c0 c1 c2 c3 c4 c5 c6 c7 c8
      go_wp2_with fail
      refine (unhide hz _ _ (by omega) (by omega)).mono ?_
      rintro e w1 ⟨⟨m, hm1, hm2, rfl⟩, hb1⟩
      by_cases hm : m < 0
      · go_wp2_with fail
        go_ret
        exact ⟨⟨-1, by omega, by omega, by omega, rfl⟩, bTr hbel hb1⟩
      · go_wp2_with fail
        exact ⟨⟨k + 1, m, by omega, by omega, by omega, by go_num, rfl, bTr hbel hb1⟩, by simp [intOf]; omega⟩
    · go_wp2_with fail
      go_ret
      exact ⟨⟨q, by omega, by omega, by omega, rfl⟩, hbel⟩

/-- 'make([]impl.DirChange, len)'. -/
theorem make_changes (len : Nat) (w : World) (h : len ≤ 1048576) : ∃ w1 C, (Instr.makeSlice 24 (.int .i64 (len : Int)) (.int .i64 (len : Int))).run Try.prog w = .ok (.slice (some ⟨w.heap.size, 0, none⟩) len len) w1 ∧
    Below w.heap.size w w1 ∧ RowIs w1 w.heap.size C 46 ∧ C.size = len * 9 := by
  have hi : (Try.prog.info? 46).map (fun i => (i.zero, i.size, i.bytes)) = some (some (.agg #[.int .i64 0, .int .i64 0, .int .i64 0, .int .i64 0, .int .i64 0, .string ByteArray.empty, .string ByteArray.empty, .string ByteArray.empty, .string ByteArray.empty]), 9, 104) := by kernel_rfl
  obtain ⟨i, h1, h2⟩ := Option.map_eq_some_iff.1 hi
  simp only [Prod.mk.injEq] at h2
  obtain ⟨hz, hsz, hby⟩ := h2
  have hr := run_make (P := Try.prog) w 24 46 i _ Try.underlying24 h1 hz .i64 .i64 (len : Int) (len : Int) (by omega) (by omega) (by rw [hby]; omega) (by omega)
  rw [Int.toNat_natCast, hsz] at hr
  exact ⟨_, _, hr, bAl (Below.refl _ _) _, RowIs.new _ _ _, size_madeCells _ _⟩

set_option maxHeartbeats 1000000 in
theorem toDirChangeS_any (a : Option Addr) (len cap : Nat) (l : List DcT) (w : World) (hl : len ≤ 1048576) (hs : SlC w a len l) :
    Calls Try.prog 6 #[.slice a len cap] w fun e w' => e = .returned (.slice (some ⟨w.heap.size, 0, none⟩) len len) ∧ DcRow w' w.heap.size 0 l ∧ Below w.heap.size w w' := by
  obtain ⟨w1, C1, hrun, hb1, hr1, hC1⟩ := make_changes len w hl
  have HS := hide hs
  have HB1 := hide hb1
  have HR1 := hide hr1
  clear hs hb1 hr1
  go_enter Try.func6, Try.ntmps6
  go_wp2
  clear hrun
  go_loopw [4] (fun i w' => ∃ (k : Nat) (C : Array Value), k ≤ len ∧ i = .int .i64 k ∧ Hid (Below w.heap.size w w') ∧ Hid (RowIs w' w.heap.size C 46) ∧ Hid (C.size = len * 9) ∧ Hid (FilledC C l k)) (fun i _ => len - (intOf i).toNat)
  case atStart => exact ⟨0, C1, Nat.zero_le _, rfl, HB1, HR1, hide hC1, hide (fun i _ h => absurd h (Nat.not_lt_zero _))⟩
  case round =>
    obtain ⟨k, C, hk, rfl, hb, hr, hC, hF⟩ := hrel
    by_cases hlt : k < len
    · obtain ⟨b, off, rfl, hrow⟩ := ((unhide HS).keep (unhide hb)).at hlt
      have hk' : k < l.length := by rw [← (unhide HS).1]; exact hlt
      have c0 := hrow.c0 k hk'
      have c1 := hrow.c1 k hk'
      have c2 := hrow.c2 k hk'
      have c3 := hrow.c3 k hk'
      have c4 := hrow.c4 k hk'
      have c5 := hrow.c5 k hk'
      have c6 := hrow.c6 k hk'
      have c7 := hrow.c7 k hk'
      have c8 := hrow.c8 k hk'
      have hF' := hide ((unhide hF).set hk' (by rw [unhide hC, (unhide HS).1]))
      clear hrow hC1
      generalize l[k] = A at c0 c1 c2 c3 c4 c5 c6 c7 c8 hF'
      go_wp2_with fail
      refine (toDirChange_any _ _ _ _ _ _ _ _ _ _).mono ?_
      rintro e w2 ⟨rfl, hb2⟩
      replace hr := hide ((unhide hr).keep hb2)
      replace hb := hide (bTr (unhide hb) hb2)
      have f0 := (unhide hr).froz (k * 9)
      have f1 := (unhide hr).froz (k * 9 + 1)
      have f2 := (unhide hr).froz (k * 9 + 2)
      have f3 := (unhide hr).froz (k * 9 + 3)
      have f4 := (unhide hr).froz (k * 9 + 4)
      have f5 := (unhide hr).froz (k * 9 + 5)
      have f6 := (unhide hr).froz (k * 9 + 6)
      have f7 := (unhide hr).froz (k * 9 + 7)
      have f8 := (unhide hr).froz (k * 9 + 8)
      have s3 : k * 9 + 8 < C.size := by rw [unhide hC]; omega
      have g0 := (unhide hr).cell (k * 9)
      have g1 := (unhide hr).cell (k * 9 + 1)
      have g2 := (unhide hr).cell (k * 9 + 2)
      have g3 := (unhide hr).cell (k * 9 + 3)
      have g4 := (unhide hr).cell (k * 9 + 4)
      have g5 := (unhide hr).cell (k * 9 + 5)
      have g6 := (unhide hr).cell (k * 9 + 6)
      have g7 := (unhide hr).cell (k * 9 + 7)
      have g8 := (unhide hr).cell (k * 9 + 8)
      rw [Array.getElem?_eq_getElem (by omega)] at g0 g1 g2 g3 g4 g5 g6 g7 g8
      generalize C[k * 9] = D0 at g0
      generalize C[k * 9 + 1] = D1 at g1
      generalize C[k * 9 + 2] = D2 at g2
      generalize C[k * 9 + 3] = D3 at g3
      generalize C[k * 9 + 4] = D4 at g4
      generalize C[k * 9 + 5] = D5 at g5
      generalize C[k * 9 + 6] = D6 at g6
      generalize C[k * 9 + 7] = D7 at g7
      generalize C[k * 9 + 8] = D8 at g8
      clear c0 c1 c2 c3 c4 c5 c6 c7 c8 hb2
      go_wp2_with fail
      refine ⟨⟨k + 1, set9 C k A, by omega, by go_num, hide ?_, hide ?_, hide (by rw [size_set9]; exact unhide hC), hF'⟩, by simp [intOf]; omega⟩
      · repeat refine bSet ?_ _ _ (Nat.le_refl _) _
        exact unhide hb
      · exact (((((((((unhide hr).set _ _).set _ _).set _ _).set _ _).set _ _).set _ _).set _ _).set _ _).set _ _
    · go_wp2_with fail
      go_ret
      have e : k = l.length := by rw [← (unhide HS).1]; omega
      exact ⟨rfl, FilledC.row (by rw [← e]; exact unhide hF) (unhide hr), unhide hb⟩

theorem eqStamp_same (t o : Int) (w : World) :
    Calls Try.prog 37 #[.agg #[.int .i64 t, .int .i64 o], .agg #[.int .i64 t, .int .i64 o]] w fun e w' => e = .returned (.bool true) ∧ Below w.heap.size w w' := by
  go_enter Try.func37, Try.ntmps37
  go_wp2
  go_ret
  exact ⟨rfl, bAl (bAl (Below.refl _ _) _) _⟩

set_option maxHeartbeats 400000 in
theorem eqDirChange_same (t o k u p : Int) (pa pt a x : ByteArray) (w : World) :
    Calls Try.prog 22 #[.agg #[.int .i64 t, .int .i64 o, .int .i64 k, .int .i64 u, .int .i64 p, .string pa, .string pt, .string a, .string x], .agg #[.int .i64 t, .int .i64 o, .int .i64 k, .int .i64 u, .int .i64 p, .string pa, .string pt, .string a, .string x]] w fun e w' => e = .returned (.bool true) ∧ Below w.heap.size w w' := by
  obtain ⟨W1, hW1⟩ : ∃ W, W = w.alloc (.cells #[.int .i64 t, .int .i64 o, .int .i64 k, .int .i64 u, .int .i64 p, .string pa, .string pt, .string a, .string x] 46) := ⟨_, rfl⟩
  obtain ⟨W2, hW2⟩ : ∃ W, W = W1.alloc (.cells #[.int .i64 t, .int .i64 o, .int .i64 k, .int .i64 u, .int .i64 p, .string pa, .string pt, .string a, .string x] 46) := ⟨_, rfl⟩
  have z1 : W1.heap.size = w.heap.size + 1 := by rw [hW1]; simp
  have b1 : Below w.heap.size w W1 := by rw [hW1]; exact bAl (Below.refl _ _) _
  have b2 : Below W1.heap.size W1 W2 := by rw [hW2]; exact bAl (Below.refl _ _) _
  have B := hide (bTr b1 b2)
  have R1 := hide ((show RowIs W1 w.heap.size #[.int .i64 t, .int .i64 o, .int .i64 k, .int .i64 u, .int .i64 p, .string pa, .string pt, .string a, .string x] 46 by rw [hW1]; exact RowIs.new _ _ _).keep b2)
  have R2 := hide (show RowIs W2 (w.heap.size + 1) #[.int .i64 t, .int .i64 o, .int .i64 k, .int .i64 u, .int .i64 p, .string pa, .string pt, .string a, .string x] 46 by rw [hW2, ← z1]; exact RowIs.new _ _ _)
  have HW := hide (show (w.alloc (.cells #[.int .i64 t, .int .i64 o, .int .i64 k, .int .i64 u, .int .i64 p, .string pa, .string pt, .string a, .string x] 46)).alloc (.cells #[.int .i64 t, .int .i64 o, .int .i64 k, .int .i64 u, .int .i64 p, .string pa, .string pt, .string a, .string x] 46) = W2 by rw [hW2, hW1])
  clear hW1 hW2 z1 b1 b2
  go_enter Try.func22, Try.ntmps22
  go_wp2_with fail
  rw [unhide HW]
  clear HW
  refine (eqStamp_same t o _).mono ?_
  rintro e w3 ⟨rfl, hb⟩
  replace R1 := hide ((unhide R1).keep hb)
  replace R2 := hide ((unhide R2).keep hb)
  replace B := hide (bTr (unhide B) hb)
  clear hb W1 W2
  have c2 := (unhide R1).at (o := 2) (v := .int .i64 k) rfl
  have c3 := (unhide R1).at (o := 3) (v := .int .i64 u) rfl
  have c4 := (unhide R1).at (o := 4) (v := .int .i64 p) rfl
  have c5 := (unhide R1).at (o := 5) (v := .string pa) rfl
  have c6 := (unhide R1).at (o := 6) (v := .string pt) rfl
  have d2 := (unhide R2).at (o := 2) (v := .int .i64 k) rfl
  have d3 := (unhide R2).at (o := 3) (v := .int .i64 u) rfl
  have d4 := (unhide R2).at (o := 4) (v := .int .i64 p) rfl
  have d5 := (unhide R2).at (o := 5) (v := .string pa) rfl
  have d6 := (unhide R2).at (o := 6) (v := .string pt) rfl
  go_wp2_with fail
  refine (eqPart_same pa pt _).mono ?_
  rintro e w4 ⟨rfl, hb⟩
  replace R1 := hide ((unhide R1).keep hb)
  replace R2 := hide ((unhide R2).keep hb)
  replace B := hide (bTr (unhide B) hb)
  clear hb c2 d2 c3 d3 c4 d4 c5 d5 c6 d6
  have c7 := (unhide R1).at (o := 7) (v := .string a) rfl
  have c8 := (unhide R1).at (o := 8) (v := .string x) rfl
  have d7 := (unhide R2).at (o := 7) (v := .string a) rfl
  have d8 := (unhide R2).at (o := 8) (v := .string x) rfl
  go_wp2_with fail
  go_ret
  exact ⟨rfl, unhide B⟩

set_option maxHeartbeats 1000000 in
theorem eqDirChangeS_same (a1 a2 : Option Addr) (len1 c1 len2 c2 : Nat) (l : List DcT) (w : World) (h1 : SlC w a1 len1 l) (h2 : SlC w a2 len2 l) (hm : len1 ≤ maxLen) :
    Calls Try.prog 8 #[.slice a1 len1 c1, .slice a2 len2 c2] w fun e w' => e = .returned (.bool true) ∧ Below w.heap.size w w' := by
  unfold maxLen at hm
  obtain rfl : len1 = len2 := by rw [h1.1, h2.1]
  have H1 := hide h1
  have H2 := hide h2
  clear h1 h2
  go_enter Try.func8, Try.ntmps8
  go_wp2
  go_loopw [5] (fun i w' => ∃ k : Nat, k ≤ len1 ∧ i = .int .i64 k ∧ Below w.heap.size w w') (fun i _ => len1 - (intOf i).toNat)
  case atStart => exact ⟨0, Nat.zero_le _, rfl, Below.refl _ _⟩
  case round =>
    obtain ⟨k, hk, rfl, hbel⟩ := hrel
    by_cases hlt : k < len1
    · have g1 := hide ((unhide H1).keep hbel)
      have g2 := hide ((unhide H2).keep hbel)
      have hk' : k < l.length := by rw [← (unhide H1).1]; exact hlt
      obtain ⟨b, off, rfl, r1⟩ := (unhide g1).at hlt
      obtain ⟨b', off', rfl, r2⟩ := (unhide g2).at hlt
      have p0 := r1.c0 k hk'
      have p1 := r1.c1 k hk'
      have p2 := r1.c2 k hk'
      have p3 := r1.c3 k hk'
      have p4 := r1.c4 k hk'
      have p5 := r1.c5 k hk'
      have p6 := r1.c6 k hk'
      have p7 := r1.c7 k hk'
      have p8 := r1.c8 k hk'
      have q0 := r2.c0 k hk'
      have q1 := r2.c1 k hk'
      have q2 := r2.c2 k hk'
      have q3 := r2.c3 k hk'
      have q4 := r2.c4 k hk'
      have q5 := r2.c5 k hk'
      have q6 := r2.c6 k hk'
      have q7 := r2.c7 k hk'
      have q8 := r2.c8 k hk'
      have z1 := r1.z
      have z2 := r2.z
      clear r1 r2 g1 g2
      generalize l[k] = A at p0 q0 p1 q1 p2 q2 p3 q3 p4 q4 p5 q5 p6 q6 p7 q7 p8 q8
      have ne : Nonempty (Kept wr) := ⟨⟨wr, Below.refl _ _⟩⟩
      have e0 := kept_cell z1 p0
      have f0 := kept_cell z2 q0
      have e1 := kept_cell z1 p1
      have f1 := kept_cell z2 q1
      have e2 := kept_cell z1 p2
      have f2 := kept_cell z2 q2
      have e3 := kept_cell z1 p3
      have f3 := kept_cell z2 q3
      have e4 := kept_cell z1 p4
      have f4 := kept_cell z2 q4
      have e5 := kept_cell z1 p5
      have f5 := kept_cell z2 q5
      have e6 := kept_cell z1 p6
      have f6 := kept_cell z2 q6
      have e7 := kept_cell z1 p7
      have f7 := kept_cell z2 q7
      have e8 := kept_cell z1 p8
      have f8 := kept_cell z2 q8
      have i0 : (0 : Int) ≤ (k : Int) := by omega
      have i1 : (k : Int) < (len1 : Int) := by omega
      go_wp2_with fail
      refine wp_region_kept (by kernel_rfl) (by kernel_rfl) ?_
      repeat (first
        | go_big_quiet_step ((go_at_call 22; exact kept_call (eqDirChange_same _ _ _ _ _ _ _ _ _ _)))
        | quiet_step ((go_at_call 22; exact kept_call (eqDirChange_same _ _ _ _ _ _ _ _ _ _))))
      refine wpQuiet_nil ?_
      rintro _ ⟨q, rfl⟩
      clear ne e0 f0 e1 f1 e2 f2 e3 f3 e4 f4 e5 f5 e6 f6 e7 f7 e8 f8
      obtain ⟨w3, hb3⟩ := q
      go_wp2_with fail
      exact ⟨⟨k + 1, by omega, by go_num, bTr hbel hb3⟩, by simp [intOf]; omega⟩
    · go_wp2_with fail
      go_ret
      exact ⟨rfl, hbel⟩
end Go.Proofs.Ytpdnimchmgbijaa
