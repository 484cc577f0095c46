/- laws.szPart, szPartS, toPart, toPartS, eqPart, eqPartS. -/
import Derived.Test.YthmjefmljcdpcaaQRow
namespace Go.Proofs.Ythmjefmljcdpcaa
open Go.RowKit

theorem szPart_any (a t : ByteArray) (l : Int) (w : World) (h0 : 0 ≤ l) (h1 : l ≤ 1048576) (ha : a.size ≤ maxLen) (ht : t.size ≤ maxLen) :
    Calls Try.prog 32 #[.agg #[.string a, .string t], .int .i64 l] w fun e w' => (∃ m : Int, -1 ≤ m ∧ m ≤ l ∧ (0 ≤ m → (a.size : Int) ≤ l ∧ (t.size : Int) ≤ l) ∧ e = .returned (.int .i64 m)) ∧ Below w.heap.size w w' := by
  unfold maxLen at ha ht
  go_enter Try.func32, Try.ntmps32
  go_wp2
  all_goals go_ret
  all_goals exact ⟨⟨_, by omega, by omega, by omega, rfl⟩, bAl (Below.refl _ _) _⟩

theorem toPart_any (a t : ByteArray) (w : World) :
    Calls Try.prog 35 #[.agg #[.string a, .string t]] w fun e w' => e = .returned (.agg #[.string a, .string t]) ∧ Below w.heap.size w w' := by
  go_enter Try.func35, Try.ntmps35
  go_wp2
  exact bodyPost_ret (v := .agg #[.string a, .string t]) (by simp [results, Try.results35, go_sem]) rfl ⟨rfl, bAl (bAl (bAl (Below.refl _ _) _) _) _⟩

theorem eqPart_same (a t : ByteArray) (w : World) :
    Calls Try.prog 37 #[.agg #[.string a, .string t], .agg #[.string a, .string t]] w fun e w' => e = .returned (.bool true) ∧ Below w.heap.size w w' := by
  go_enter Try.func37, Try.ntmps37
  go_wp2
  go_ret
  exact ⟨rfl, bAl (bAl (Below.refl _ _) _) _⟩

set_option maxHeartbeats 400000 in
theorem szPartS_any (a : Option Addr) (len cap : Nat) (l : List PartT) (left : Int) (w : World) (h0 : 0 ≤ left) (h1 : left ≤ 1048576) (hl : len ≤ maxLen) (hs : SlP w a len l) (hok : ∀ q ∈ l, PartT.Ok q) :
    Calls Try.prog 9 #[.slice a len cap, .int .i64 left] w fun e w' => (∃ m : Int, -1 ≤ m ∧ m ≤ left ∧ (0 ≤ m → (len : Int) ≤ left) ∧ e = .returned (.int .i64 m)) ∧ Below w.heap.size w w' := by
  unfold maxLen at hl
  by_cases hlen : left < (len : Int)
  · go_enter Try.func9, Try.ntmps9
    go_wp2
    go_ret
    exact ⟨⟨-1, by omega, by omega, by omega, rfl⟩, Below.refl _ _⟩
  have d1 : decide (left - (len : Int) < 0) = false := by simp; omega
  have HS := hide hs
  clear hs
  go_enter Try.func9, Try.ntmps9
  go_wp2
  go_loopw [1, 5] (fun m i w' => ∃ (k : Nat) (q : Int), k ≤ len ∧ 0 ≤ q ∧ q ≤ left ∧ i = .int .i64 k ∧ m = .int .i64 q ∧ Below w.heap.size w w') (fun _ i _ => len - (intOf i).toNat)
  case atStart => exact ⟨0, _, Nat.zero_le _, by omega, by omega, rfl, rfl, Below.refl _ _⟩
  case round =>
    obtain ⟨k, q, hk, hq1, hq2, rfl, rfl, hbel⟩ := hrel
    by_cases hlt : k < len
    · obtain ⟨b, off, rfl, hrow⟩ := ((unhide HS).keep hbel).at hlt
      have hk' : k < l.length := by rw [← (unhide HS).1]; exact hlt
      have c0 := hrow.c0 k hk'
      have c1 := hrow.c1 k hk'
      have ho := hok _ (List.getElem_mem hk')
      have hz := hide (fun q w h0 h1 => szPart_any (l[k]).a (l[k]).t q w h0 h1 ho.a9 ho.t9)
      clear hrow ho hok
      generalize l[k] = A at hz c0 c1
      go_wp2_with fail
      refine (unhide hz _ _ (by omega) (by omega)).mono ?_
      rintro e w1 ⟨⟨m, hm1, hm2, _, rfl⟩, hb1⟩
      by_cases hm : m < 0
      · go_wp2_with fail
        go_ret
        exact ⟨⟨-1, by omega, by omega, by omega, rfl⟩, bTr hbel hb1⟩
      · go_wp2_with fail
        exact ⟨⟨k + 1, m, by omega, by omega, by omega, by go_num, rfl, bTr hbel hb1⟩, by simp [intOf]; omega⟩
    · go_wp2_with fail
      go_ret
      exact ⟨⟨q, by omega, by omega, by omega, rfl⟩, hbel⟩

/-- 'make([]impl.Part, len)'. -/
theorem make_parts (len : Nat) (w : World) (h : len ≤ 1048576) : ∃ w1 C, (Instr.makeSlice 25 (.int .i64 (len : Int)) (.int .i64 (len : Int))).run Try.prog w = .ok (.slice (some ⟨w.heap.size, 0, none⟩) len len) w1 ∧
    Below w.heap.size w w1 ∧ RowIs w1 w.heap.size C 62 ∧ C.size = len * 2 := by
  have hi : (Try.prog.info? 62).map (fun i => (i.zero, i.size, i.bytes)) = some (some (.agg #[.string ByteArray.empty, .string ByteArray.empty]), 2, 32) := by kernel_rfl
  obtain ⟨i, h1, h2⟩ := Option.map_eq_some_iff.1 hi
  simp only [Prod.mk.injEq] at h2
  obtain ⟨hz, hsz, hby⟩ := h2
  have hr := run_make (P := Try.prog) w 25 62 i _ Try.underlying25 h1 hz .i64 .i64 (len : Int) (len : Int) (by omega) (by omega) (by rw [hby]; omega) (by omega)
  rw [Int.toNat_natCast, hsz] at hr
  exact ⟨_, _, hr, bAl (Below.refl _ _) _, RowIs.new _ _ _, size_madeCells _ _⟩

set_option maxHeartbeats 400000 in
theorem toPartS_any (a : Option Addr) (len cap : Nat) (l : List PartT) (w : World) (hl : len ≤ 1048576) (hs : SlP w a len l) :
    Calls Try.prog 11 #[.slice a len cap] w fun e w' => e = .returned (.slice (some ⟨w.heap.size, 0, none⟩) len len) ∧ PartRow w' w.heap.size 0 l ∧ Below w.heap.size w w' := by
  obtain ⟨w1, C1, hrun, hb1, hr1, hC1⟩ := make_parts len w hl
  have HS := hide hs
  have HB1 := hide hb1
  have HR1 := hide hr1
  clear hs hb1 hr1
  go_enter Try.func11, Try.ntmps11
  go_wp2
  clear hrun
  go_loopw [4] (fun i w' => ∃ (k : Nat) (C : Array Value), k ≤ len ∧ i = .int .i64 k ∧ Hid (Below w.heap.size w w') ∧ Hid (RowIs w' w.heap.size C 62) ∧ Hid (C.size = len * 2) ∧ Hid (FilledP C l k)) (fun i _ => len - (intOf i).toNat)
  case atStart => exact ⟨0, C1, Nat.zero_le _, rfl, HB1, HR1, hide hC1, hide (fun i _ h => absurd h (Nat.not_lt_zero _))⟩
  case round =>
    obtain ⟨k, C, hk, rfl, hb, hr, hC, hF⟩ := hrel
    by_cases hlt : k < len
    · obtain ⟨b, off, rfl, hrow⟩ := ((unhide HS).keep (unhide hb)).at hlt
      have hk' : k < l.length := by rw [← (unhide HS).1]; exact hlt
      have c0 := hrow.c0 k hk'
      have c1 := hrow.c1 k hk'
      have hF' := hide ((unhide hF).set hk' (by rw [unhide hC, (unhide HS).1]))
      clear hrow hC1
      generalize l[k] = A at c0 c1 hF'
      go_wp2_with fail
      refine (toPart_any _ _ _).mono ?_
      rintro e w2 ⟨rfl, hb2⟩
      replace hr := hide ((unhide hr).keep hb2)
      replace hb := hide (bTr (unhide hb) hb2)
      have f0 := (unhide hr).froz (k * 2)
      have f1 := (unhide hr).froz (k * 2 + 1)
      have s3 : k * 2 + 1 < C.size := by rw [unhide hC]; omega
      have g0 := (unhide hr).cell (k * 2)
      have g1 := (unhide hr).cell (k * 2 + 1)
      rw [Array.getElem?_eq_getElem (by omega)] at g0 g1
      generalize C[k * 2] = D0 at g0
      generalize C[k * 2 + 1] = D1 at g1
      clear c0 c1 hb2
      go_wp2_with fail
      refine ⟨⟨k + 1, set2 C k A, by omega, by go_num, hide ?_, hide ?_, hide (by rw [size_set2]; exact unhide hC), hF'⟩, by simp [intOf]; omega⟩
      · exact ((unhide hb).setCell (Nat.le_refl _) _).setCell (Nat.le_refl _) _
      · exact ((unhide hr).set _ _).set _ _
    · go_wp2_with fail
      go_ret
      have e : k = l.length := by rw [← (unhide HS).1]; omega
      exact ⟨rfl, FilledP.row (by rw [← e]; exact unhide hF) (unhide hr), unhide hb⟩

set_option maxHeartbeats 400000 in
theorem eqPartS_same (a1 a2 : Option Addr) (len1 c1 len2 c2 : Nat) (l : List PartT) (w : World) (h1 : SlP w a1 len1 l) (h2 : SlP w a2 len2 l) (hm : len1 ≤ maxLen) :
    Calls Try.prog 13 #[.slice a1 len1 c1, .slice a2 len2 c2] w fun e w' => e = .returned (.bool true) ∧ Below w.heap.size w w' := by
  unfold maxLen at hm
  obtain rfl : len1 = len2 := by rw [h1.1, h2.1]
  have H1 := hide h1
  have H2 := hide h2
  clear h1 h2
  go_enter Try.func13, Try.ntmps13
  go_wp2
  go_loopw [5] (fun i w' => ∃ k : Nat, k ≤ len1 ∧ i = .int .i64 k ∧ Below w.heap.size w w') (fun i _ => len1 - (intOf i).toNat)
  case atStart => exact ⟨0, Nat.zero_le _, rfl, Below.refl _ _⟩
  case round =>
    obtain ⟨k, hk, rfl, hbel⟩ := hrel
    by_cases hlt : k < len1
    · have g1 := hide ((unhide H1).keep hbel)
      have g2 := hide ((unhide H2).keep hbel)
      have hk' : k < l.length := by rw [← (unhide H1).1]; exact hlt
      obtain ⟨b, off, rfl, r1⟩ := (unhide g1).at hlt
      obtain ⟨b', off', rfl, r2⟩ := (unhide g2).at hlt
      have p0 := r1.c0 k hk'
      have p1 := r1.c1 k hk'
      have q0 := r2.c0 k hk'
      have q1 := r2.c1 k hk'
      have z1 := r1.z
      have z2 := r2.z
      clear r1 r2 g1 g2
      generalize l[k] = A at p0 p1 q0 q1
      have ne : Nonempty (Kept wr) := ⟨⟨wr, Below.refl _ _⟩⟩
      have e0 := kept_cell z1 p0
      have e1 := kept_cell z1 p1
      have f0 := kept_cell z2 q0
      have f1 := kept_cell z2 q1
      have i0 : (0 : Int) ≤ (k : Int) := by omega
      have i1 : (k : Int) < (len1 : Int) := by omega
      go_wp2_with fail
      refine wp_region_kept (by kernel_rfl) (by kernel_rfl) ?_
      repeat (first
        | go_big_quiet_step ((go_at_call 37; exact kept_call (eqPart_same _ _ _)))
        | quiet_step ((go_at_call 37; exact kept_call (eqPart_same _ _ _))))
      refine wpQuiet_nil ?_
      rintro _ ⟨q, rfl⟩
      clear ne e0 e1 f0 f1
      obtain ⟨w3, hb3⟩ := q
      go_wp2_with fail
      exact ⟨⟨k + 1, by omega, by go_num, bTr hbel hb3⟩, by simp [intOf]; omega⟩
    · go_wp2_with fail
      go_ret
      exact ⟨rfl, hbel⟩
end Go.Proofs.Ythmjefmljcdpcaa
