/- The drawers' kit: l1Many, of, rare, zInts. -/
import Derived.Test.YtjmpakpodhbbpaaXCur
namespace Go.Proofs.Ytjmpakpodhbbpaa.C
open Go.RowKit
set_option maxRecDepth 20000

theorem l1Many_any (a : Option Addr) (len cap : Nat) (w : World) (hl : len ≤ maxLen) :
    Calls Try.prog 9 #[.slice a len cap, .int .i64 10, .int .i64 30] w fun e w' => (∃ n : Nat, n ≤ 30 ∧ e = .returned (.int .i64 n)) ∧ w = w' := by
  unfold maxLen at hl
  by_cases h : 30 < len / 10
  · have h1 : (30 : Int) < (len : Int) / 10 := by omega
    go_enter Try.func9, Try.ntmps9
    go_wp2_with fail
    go_ret
    exact ⟨⟨30, by omega, rfl⟩, rfl⟩
  · obtain ⟨q, hq⟩ : ∃ q, len / 10 = q := ⟨_, rfl⟩
    have h1 : (len : Int) / 10 = (q : Int) := by omega
    have h2 : ¬ (30 : Int) < (q : Int) := by omega
    go_enter Try.func9, Try.ntmps9
    go_wp2_with fail
    go_ret
    exact ⟨⟨q, by omega, rfl⟩, rfl⟩
theorem CurOk.grown {w w' : World} {b m : Nat} {row : Option Nat} (h : CurOk w b m) (hg : w.grownBy w' row) (hr : ∀ g, row = some g → b < g) : CurOk w' b m := by
  obtain ⟨a, len, cap, k, seed, h1, h2, h3⟩ := h
  refine ⟨a, len, cap, k, seed, row_grown h1 hg (fun e => by have := hr b e.symm; omega), h2, h3.1, ?_⟩
  rcases h3.2 with e | ⟨blk, off, e, q, n, r⟩
  · exact .inl e
  · refine .inr ⟨blk, off, e, Nat.lt_of_lt_of_le q hg.size, n, fun i hi => ?_⟩
    obtain ⟨x, g1, g2, g3⟩ := r i hi
    refine ⟨x, g1, g2, ?_⟩
    rw [World.cell?_of_block (hg.block blk q (fun e => by have := hr blk e.symm; omega))]
    exact g3
theorem But.grow {b : Nat} {w w' : World} (h : But b w w') : w.grownBy w' (some b) := ⟨h.os, h.tape, h.output, h.size, fun k hk hn => h.block k hk (fun e => hn (by rw [e]))⟩
/-- The strings l lie in block b from off on. -/
structure StrRow (w : World) (b off : Nat) (l : List ByteArray) : Prop where
  z : b < w.heap.size
  c : ∀ i (h : i < l.length), w.cell? ⟨b, off + i, none⟩ = some (.string l[i])
set_option maxHeartbeats 1000000 in
theorem of_any (b m z : Nat) (l : List ByteArray) (n : Nat) (w : World) (hm : m ≤ 800000) (hn : 1 ≤ n) (hn2 : n ≤ 100) (hln : n = l.length) (hc : CurOk w b m) (hr : StrRow w z 0 l) (hz : z ≠ b) :
    Calls Try.prog 11 #[.pointer (some ⟨b, 0, none⟩), .slice (some ⟨z, 0, none⟩) n n] w fun e w' => (∃ s, s ∈ l ∧ e = .returned (.string s)) ∧ CurOk w' b (m + 2) ∧ But b w w' := by
  have HC := hide hc
  have HR := hide hr
  have HL := hide hln
  clear hc hr hln
  go_enter Try.func11, Try.ntmps11
  go_wp2_with fail
  refine (pick_any b m (n : Int) _ (by omega) (by omega) (by omega) (unhide HC)).mono ?_
  rintro e w1 ⟨⟨r, r0, r1, rfl⟩, hc1, hb1⟩
  obtain ⟨j, rfl⟩ := Int.eq_ofNat_of_zero_le r0
  have hj : j < l.length := by have := unhide HL; omega
  have cj := hb1.cell (p := ⟨z, 0 + j, none⟩) (unhide HR).z hz ((unhide HR).c j hj)
  rw [Nat.zero_add] at cj
  have HC1 := hide hc1
  have mem := hide (List.getElem_mem hj)
  clear hc1
  generalize l[j] = s at cj mem
  go_wp2_with fail
  go_ret
  exact ⟨⟨s, unhide mem, rfl⟩, unhide HC1, hb1⟩
set_option maxHeartbeats 1000000 in
theorem rare_cur (b m : Nat) (n : Int) (w : World) (hm : m ≤ 700000) (h1 : 2 ≤ n) (h2 : n ≤ 1000) (hc : CurOk w b m) :
    Calls Try.prog 12 #[.pointer (some ⟨b, 0, none⟩), .int .i64 n] w fun e w' => (∃ r : Int, 0 ≤ r ∧ r < n ∧ e = .returned (.int .i64 r)) ∧ CurOk w' b (m + 4) ∧ But b w w' := by
  have HC := hide hc
  clear hc
  go_enter Try.func12, Try.ntmps12
  go_wp2_with fail
  refine (one_any b m 8 _ (by omega) (by omega) (by omega) (unhide HC)).mono ?_
  rintro e w1 ⟨⟨t, rfl⟩, hc1, hb1⟩
  have HC1 := hide hc1
  have B1 := hide hb1
  clear hc1 hb1
  cases t
  · go_wp2_with fail
    go_ret
    exact ⟨⟨0, by omega, by omega, rfl⟩, (unhide HC1).mono (by omega), unhide B1⟩
  · go_wp2_with fail
    refine (pick_any b (m + 2) (n - 1) _ (by omega) (by omega) (by omega) (unhide HC1)).mono ?_
    rintro e w2 ⟨⟨q, q0, q1, rfl⟩, hc2, hb2⟩
    have HC2 := hide hc2
    have B2 := hide ((unhide B1).trans hb2)
    clear hc2 hb2
    go_wp2_with fail
    go_ret
    exact ⟨⟨_, by omega, by omega, rfl⟩, (unhide HC2).mono (by omega), unhide B2⟩
set_option maxHeartbeats 1000000 in
theorem zInts_same {w : World} {b1 b2 : Nat} {v1 v2 : Value} {l : List Int} (h1 : w.ownsRow b1 3 1 v1 l.length (l.map intV)) (h2 : w.ownsRow b2 3 1 v2 l.length (l.map intV)) (hl : l.length ≤ 1000000) :
    Calls Try.prog 6 #[v1, v2] w fun e w' => e = .returned (.bool true) ∧ Below w.heap.size w w' := by
  obtain ⟨a1, c1, rfl, s1⟩ := own_Int h1
  obtain ⟨a2, c2, rfl, s2⟩ := own_Int h2
  have S1 := hide s1
  have S2 := hide s2
  clear s1 s2 h1 h2
  obtain ⟨n, hn⟩ : ∃ n, l.length = n := ⟨_, rfl⟩
  rw [hn] at hl ⊢
  have HN := hide hn
  clear hn
  go_enter Try.func6, Try.ntmps6
  go_wp2_with fail
  go_loopw [13] (fun i w' => ∃ k : Nat, k ≤ n ∧ i = .int .i64 k ∧ Below w.heap.size w w') (fun i _ => n - (intOf i).toNat)
  case atStart => exact ⟨0, Nat.zero_le _, rfl, Below.refl _ _⟩
  case round =>
    obtain ⟨k, hk, rfl, hbel⟩ := hrel
    by_cases hlt : k < n
    · have hk' : k < l.length := by rw [unhide HN]; exact hlt
      have hne : l ≠ [] := fun e => by rw [e] at hk'; simp at hk'
      obtain ⟨b, rfl, z1, r1⟩ := (unhide S1).resolve_left hne
      obtain ⟨b', rfl, z2, r2⟩ := (unhide S2).resolve_left hne
      have p1 := cellB hbel z1 (r1 k hk')
      have p2 := cellB hbel z2 (r2 k hk')
      replace z1 := Nat.lt_of_lt_of_le z1 hbel.size
      replace z2 := Nat.lt_of_lt_of_le z2 hbel.size
      clear r1 r2 hne
      generalize l[k] = A at p1 p2
      have i0 : (0 : Int) ≤ (k : Int) := by omega
      have i1 : (k : Int) < (n : Int) := by omega
      have e0 : (A != A) = false := by simp
      have ne : Nonempty (Kept wr) := ⟨⟨wr, Below.refl _ _⟩⟩
      have x0 := kept_cell z1 p1
      have y0 := kept_cell z2 p2
      go_wp2_with fail
      refine wp_region_kept (by kernel_rfl) (by kernel_rfl) ?_
      repeat (first | go_big_quiet_step (fail) | quiet_step (fail))
      refine wpQuiet_nil ?_
      rintro _ ⟨q, rfl⟩
      clear ne x0 y0
      obtain ⟨w3, hb3⟩ := q
      go_wp2_with fail
      exact ⟨⟨k + 1, by omega, by go_num, bTr hbel hb3⟩, by simp [intOf]; omega⟩
    · go_wp2_with fail
      go_ret
      exact ⟨rfl, hbel⟩
end Go.Proofs.Ytjmpakpodhbbpaa.C
