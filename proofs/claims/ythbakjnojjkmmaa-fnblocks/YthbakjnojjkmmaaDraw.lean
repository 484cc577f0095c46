/- spec.of (41), spec.DrawLike (15). -/
import Derived.Test.YthbakjnojjkmmaaCur
namespace Go.Proofs.Ythbakjnojjkmmaa
open Go.RowKit

set_option maxHeartbeats 1000000 in
theorem of_any (b m z : Nat) (l : List ByteArray) (n : Nat) (w : World) (hm : m ≤ 800000) (hn : 1 ≤ n) (hn2 : n ≤ 100) (hln : n = l.length) (hc : CurOk w b m) (hr : StrRow w z 0 l) (hz : z ≠ b) :
    Calls Try.prog 41 #[.pointer (some ⟨b, 0, none⟩), .slice (some ⟨z, 0, none⟩) n n] w fun e w' => (∃ s, s ∈ l ∧ e = .returned (.string s)) ∧ CurOk w' b (m + 2) ∧ But b w w' := by
  have HC := hide hc
  have HR := hide hr
  have HL := hide hln
  clear hc hr hln
  go_enter Try.func41, Try.ntmps41
  go_wp2_with fail
  refine (pick_any b m (n : Int) _ (by omega) (by omega) (by omega) (unhide HC)).mono ?_
  rintro e w1 ⟨⟨r, r0, r1, rfl⟩, hc1, hb1⟩
  obtain ⟨j, rfl⟩ := Int.eq_ofNat_of_zero_le r0
  have hj : j < l.length := by have := unhide HL; omega
  have cj := hb1.cell (p := ⟨z, 0 + j, none⟩) (unhide HR).z hz ((unhide HR).c j hj)
  rw [Nat.zero_add] at cj
  have HC1 := hide hc1
  have mem := hide (List.getElem_mem hj)
  clear hc1
  generalize l[j] = s at cj mem
  go_wp2_with fail
  go_ret
  exact ⟨⟨s, unhide mem, rfl⟩, unhide HC1, hb1⟩

def six : List ByteArray := [⟨#[97]⟩, ⟨#[98]⟩, ⟨#[97, 98]⟩, ⟨#[42]⟩, ⟨#[92]⟩, ⟨#[97, 97]⟩]
def seven : List ByteArray := [⟨#[42]⟩, ⟨#[97]⟩, ⟨#[98]⟩, ⟨#[92, 42]⟩, ⟨#[92, 92]⟩, ⟨#[92]⟩, ⟨#[92, 97]⟩]

theorem int_eq' {k : IntKind} {a b : Int} (h : a = b) : Value.int k a = .int k b := by rw [h]
theorem six_size {s : ByteArray} (h : s ∈ six) : 1 ≤ s.size ∧ s.size ≤ 2 := by
  unfold six at h
  simp only [List.mem_cons, List.not_mem_nil, or_false] at h
  rcases h with rfl | rfl | rfl | rfl | rfl | rfl <;> decide
theorem seven_size {s : ByteArray} (h : s ∈ seven) : s.size ≤ 2 := by
  unfold seven at h
  simp only [List.mem_cons, List.not_mem_nil, or_false] at h
  rcases h with rfl | rfl | rfl | rfl | rfl | rfl | rfl <;> decide
theorem strs_row (w : World) (l : List ByteArray) : StrRow (w.alloc (.cells (l.map Value.string).toArray 9)) w.heap.size 0 l :=
  ⟨by simp, fun i hi => by
    have := World.cell?_alloc_mark w (l.map Value.string).toArray 9 (0, 0) (0 + i)
    rw [this]; simp [hi]⟩
theorem six_row (w : World) : StrRow (w.alloc (.cells #[.string ⟨#[97]⟩, .string ⟨#[98]⟩, .string ⟨#[97, 98]⟩, .string ⟨#[42]⟩, .string ⟨#[92]⟩, .string ⟨#[97, 97]⟩] 9)) w.heap.size 0 six := strs_row w six
theorem seven_row (w : World) : StrRow (w.alloc (.cells #[.string ⟨#[42]⟩, .string ⟨#[97]⟩, .string ⟨#[98]⟩, .string ⟨#[92, 42]⟩, .string ⟨#[92, 92]⟩, .string ⟨#[92]⟩, .string ⟨#[92, 97]⟩] 9)) w.heap.size 0 seven := strs_row w seven
theorem cur_new {w : World} {a : Option Addr} {len : Nat} (h : CodeAt w w.heap.size a len) (cap : Nat) : CurOk (w.alloc (.cells #[.slice a len cap, .int .i64 0, .int .u64 0] 57)) w.heap.size 0 :=
  ⟨a, len, cap, 0, 0, RowIs.new _ _ _, Nat.le_refl _, h.keep (But.of (bAl (Below.refl _ _) _))⟩

theorem cut_size {s : ByteArray} {k : Nat} (h : k < s.size) : (s.extract k (k + 1)).size = 1 := by
  rw [ByteArray.size_extract]; omega

set_option maxHeartbeats 2000000 in
theorem drawLike_any (a : Option Addr) (len cap : Nat) (w : World) (hcode : CodeAt w w.heap.size a len) :
    Calls Try.prog 15 #[.slice a len cap] w fun e w' => (∃ t p : ByteArray, t.size ≤ 20 ∧ p.size ≤ 50 ∧ e = .returned (.tuple #[.string t, .string p])) ∧ Below w.heap.size w w' := by
  have HC := hide hcode
  clear hcode
  go_enter Try.func15, Try.ntmps15
  go_wp2_with fail
  refine (pick_any w.heap.size 0 9 _ (by omega) (by omega) (by omega) (cur_new (unhide HC) cap)).mono ?_
  rintro e w1 ⟨⟨r, r0, r1, rfl⟩, hc1, hb1⟩
  obtain ⟨n0, rfl⟩ := Int.eq_ofNat_of_zero_le r0
  have HC1 := hide hc1
  have B1 := hide ((bAl (Below.refl _ _) _).trans (But.below hb1 (B := w.heap.size) (Nat.le_refl _) (by simp)))
  clear hc1 hb1
  go_wp2_with fail
  go_loopw [5, 6, 7] (fun x y v w' => ∃ (t p : ByteArray) (n : Nat), x = .string t ∧ y = .string p ∧ v = .int .i64 n ∧ n ≤ 8 ∧ t.size + 2 * n ≤ 16 ∧ p.size + 4 * n ≤ 32 ∧ Hid (CurOk w' w.heap.size (2 + 6 * (8 - n))) ∧ Hid (Below w.heap.size w w')) (fun _ _ v _ => (intOf v).toNat)
  case atStart => exact ⟨⟨#[]⟩, ⟨#[]⟩, n0, rfl, rfl, rfl, by omega, by show (0 : Nat) + 2 * n0 ≤ 16; omega, by show (0 : Nat) + 4 * n0 ≤ 32; omega, hide ((unhide HC1).mono (by omega)), B1⟩
  case round =>
    clear HC1 B1
    obtain ⟨t, p, n, rfl, rfl, rfl, hn, ht, hp, hc, hb⟩ := hrel
    by_cases hpos : 0 < n
    · have zb : wr.heap.size ≠ w.heap.size := by have := (unhide hc).lt; omega
      go_wp2_with fail
      refine (of_any w.heap.size (2 + 6 * (8 - n)) wr.heap.size six 6 _ (by omega) (by omega) (by omega) rfl ((unhide hc).keep (bAl (Below.refl _ _) _)) (six_row wr) zb).mono ?_
      rintro e w2 ⟨⟨s, hs, rfl⟩, hc2, hb2⟩
      have hsz := six_size hs
      have HC2 := hide hc2
      have B2 := hide (((bAl (unhide hb) _).trans (hb2.below (B := w.heap.size) (Nat.le_refl _) (by have := (unhide hb).size; simp; omega))))
      clear hc2 hb2 hs
      have e1 : (t ++ s).size = t.size + s.size := ByteArray.size_append
      have E1 := hide e1
      clear e1
      go_wp2_with fail
      refine (pick_any w.heap.size _ 4 _ (by omega) (by omega) (by omega) (unhide HC2)).mono ?_
      rintro e w3 ⟨⟨r, r0, r1, rfl⟩, hc3, hb3⟩
      have HC3 := hide hc3
      have B3 := hide ((unhide B2).trans (hb3.below (B := w.heap.size) (Nat.le_refl _) (unhide B2).size))
      clear hc3 hb3 HC2 B2
      have en : ((n - 1 : Nat) : Int) = (n : Int) - 1 := by omega
      have EN := hide en
      clear en
      cases c0 : (r == 0)
      · cases c1 : (r == 1)
        · go_wp2_with fail
          go_loopw [6, 9] (fun y v w' => w' = w3 ∧ ∃ (p' : ByteArray) (k : Nat), y = .string p' ∧ v = .int .i64 k ∧ k ≤ s.size ∧ p'.size ≤ p.size + 2 * k) (fun _ v _ => s.size - (intOf v).toNat)
          case atStart => exact ⟨rfl, p, 0, rfl, rfl, by omega, by omega⟩
          case round =>
            obtain ⟨hw, p', k, rfl, rfl, hk, hp'⟩ := hrel
            subst hw
            by_cases hlt : k < s.size
            · obtain ⟨c, hc⟩ : ∃ c, s[k] = c := ⟨_, rfl⟩
              cases c2 : ((c.toNat : Int) == 42)
              · cases c3 : ((c.toNat : Int) == 92)
                · go_wp2_with fail
                  exact ⟨⟨trivial, _, k + 1, rfl, rfl, by omega, by rw [ByteArray.size_append, cut_size hlt]; omega⟩, by simp [intOf]; omega⟩
                · go_wp2_with fail
                  exact ⟨⟨trivial, _, k + 1, rfl, rfl, by omega, by rw [ByteArray.size_append, ByteArray.size_append, cut_size hlt]; show _ + 1 + 1 ≤ _; omega⟩, by simp [intOf]; omega⟩
              · go_wp2_with fail
                exact ⟨⟨trivial, _, k + 1, rfl, rfl, by omega, by rw [ByteArray.size_append, ByteArray.size_append, cut_size hlt]; show _ + 1 + 1 ≤ _; omega⟩, by simp [intOf]; omega⟩
            · go_wp2_with fail
              exact ⟨⟨t ++ s, p', n - 1, rfl, rfl, int_eq' (unhide EN).symm, by omega, by rw [unhide E1]; omega, by omega, hide ((unhide HC3).mono (by omega)), B3⟩, by simp [intOf]; omega⟩
        · have zb3 : w3.heap.size ≠ w.heap.size := by have := (unhide HC3).lt; omega
          go_wp2_with fail
          refine (of_any w.heap.size _ w3.heap.size seven 7 _ (by omega) (by omega) (by omega) rfl ((unhide HC3).keep (bAl (Below.refl _ _) _)) (seven_row w3) zb3).mono ?_
          rintro e w4 ⟨⟨s', hs', rfl⟩, hc4, hb4⟩
          have hsz' := seven_size hs'
          have HC4 := hide hc4
          have B4 := hide (((bAl (unhide B3) _).trans (hb4.below (B := w.heap.size) (Nat.le_refl _) (by have := (unhide B3).size; simp; omega))))
          have e2 : (p ++ s').size = p.size + s'.size := ByteArray.size_append
          have E2 := hide e2
          clear hc4 hb4 hs' e2
          go_wp2_with fail
          exact ⟨⟨t ++ s, p ++ s', n - 1, rfl, rfl, int_eq' (unhide EN).symm, by omega, by rw [unhide E1]; omega, by rw [unhide E2]; omega, hide ((unhide HC4).mono (by omega)), B4⟩, by simp [intOf]; omega⟩
      · have e2 : (p ++ ⟨#[42]⟩).size = p.size + 1 := ByteArray.size_append
        have E2 := hide e2
        clear e2
        go_wp2_with fail
        exact ⟨⟨t ++ s, p ++ ⟨#[42]⟩, n - 1, rfl, rfl, int_eq' (unhide EN).symm, by omega, by rw [unhide E1]; omega, by rw [unhide E2]; omega, hide ((unhide HC3).mono (by omega)), B3⟩, by simp [intOf]; omega⟩
    · go_wp2_with fail
      go_ret2
      exact ⟨⟨t, p, by omega, by omega, rfl⟩, unhide hb⟩
end Go.Proofs.Ythbakjnojjkmmaa
