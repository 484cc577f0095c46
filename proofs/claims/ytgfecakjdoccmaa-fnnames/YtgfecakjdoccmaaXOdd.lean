/- l1Cur.oddDirName. -/
import Derived.Test.YtgfecakjdoccmaaXDrw
import Derived.Laws.OwnMore
namespace Go.Proofs.Ytgfecakjdoccmaa.C
open Go.RowKit

def ON (l : List PartT) : Prop := 1 ≤ l.length ∧ l.length ≤ 9 ∧ ∀ q ∈ l, q.a.size ≤ 3 ∧ q.t.size ≤ 61
theorem DN.on {l : List PartT} (h : DN l) : ON l := ⟨h.1, by have := h.2.1; omega, fun q hq => by have := h.2.2 q hq; omega⟩
def three : List ByteArray := [⟨#[]⟩, ⟨#[49]⟩, ⟨#[97, 45, 98]⟩]
def pair : List ByteArray := [⟨#[]⟩, ⟨#[9]⟩]

theorem three_size {s : ByteArray} (h : s ∈ three) : s.size ≤ 3 := by
  unfold three at h
  simp only [List.mem_cons, List.not_mem_nil, or_false] at h
  rcases h with rfl | rfl | rfl <;> decide
theorem pair_size {s : ByteArray} (h : s ∈ pair) : s.size ≤ 61 := by
  unfold pair at h
  simp only [List.mem_cons, List.not_mem_nil, or_false] at h
  rcases h with rfl | rfl <;> decide
theorem three_row (w : World) : StrRow (w.alloc (.cells #[.string ⟨#[]⟩, .string ⟨#[49]⟩, .string ⟨#[97, 45, 98]⟩] 9)) w.heap.size 0 three := strs_row w three
theorem pair_row (w : World) : StrRow (w.alloc (.cells #[.string ⟨#[]⟩, .string ⟨#[9]⟩] 9)) w.heap.size 0 pair := strs_row w pair
theorem DS.setA {w x : World} {b m g cap : Nat} {p : PartT} {t : List PartT} (h : DS w b m (.slice (some ⟨g, 0, none⟩) (p :: t).length cap) (p :: t) x) (s : ByteArray) : DS w b m (.slice (some ⟨g, 0, none⟩) (p :: t).length cap) (⟨s, p.t⟩ :: t) (x.setCell ⟨g, 0, none⟩ (.string s)) := by
  have hg := (h.o.lt g rfl).1
  have hz := h.z
  exact ⟨(h.o.stored 0 (.string s)).1, h.c.setAbove _ (by omega), h.t.thenBelow ((Below.refl w.heap.size x).setCell (p := ⟨g, 0, none⟩) hg _), h.z⟩
theorem DS.setT {w x : World} {b m g cap : Nat} {p : PartT} {t : List PartT} (h : DS w b m (.slice (some ⟨g, 0, none⟩) (p :: t).length cap) (p :: t) x) (s : ByteArray) : DS w b m (.slice (some ⟨g, 0, none⟩) (p :: t).length cap) (⟨p.a, s⟩ :: t) (x.setCell ⟨g, 1, none⟩ (.string s)) := by
  have hg := (h.o.lt g rfl).1
  have hz := h.z
  exact ⟨(h.o.stored 1 (.string s)).1, h.c.setAbove _ (by omega), h.t.thenBelow ((Below.refl w.heap.size x).setCell (p := ⟨g, 1, none⟩) hg _), h.z⟩
theorem ON.setA {p : PartT} {t : List PartT} (h : DN (p :: t)) {s : ByteArray} (hs : s.size ≤ 3) : ON (⟨s, p.t⟩ :: t) := by
  have k := h.on
  refine ⟨k.1, k.2.1, fun q hq => ?_⟩
  rcases List.mem_cons.1 hq with rfl | hq
  · exact ⟨hs, (k.2.2 p List.mem_cons_self).2⟩
  · exact k.2.2 q (List.mem_cons_of_mem _ hq)
theorem ON.setT {p : PartT} {t : List PartT} (h : DN (p :: t)) {s : ByteArray} (hs : s.size ≤ 61) : ON (⟨p.a, s⟩ :: t) := by
  have k := h.on
  refine ⟨k.1, k.2.1, fun q hq => ?_⟩
  rcases List.mem_cons.1 hq with rfl | hq
  · exact ⟨(k.2.2 p List.mem_cons_self).1, hs⟩
  · exact k.2.2 q (List.mem_cons_of_mem _ hq)

theorem DS.other {w x : World} {b m z o : Nat} {v : Value} {l : List PartT} (h : DS w b m v l x) (u : Value) (hz : w.heap.size ≤ z) (hg : ∀ g, v.ownBlock = some g → g ≠ z) : DS w b m v l (x.setCell ⟨z, o, none⟩ u) := by
  have hb := h.z
  exact ⟨own_setT h.o hg, h.c.setAbove _ (by omega), h.t.thenBelow ((Below.refl w.heap.size x).setCell (p := ⟨z, o, none⟩) hz _), h.z⟩
theorem make_bytes (n : Nat) (w : World) (h : n ≤ 100) : ∃ w1 C, (Instr.makeSlice 22 (.int .i64 (n : Int)) (.int .i64 (n : Int))).run Try.prog w = .ok (.slice (some ⟨w.heap.size, 0, none⟩) n n) w1 ∧
    Below w.heap.size w w1 ∧ RowIs w1 w.heap.size C 5 ∧ C.size = n := by
  have hi : (Try.prog.info? 5).map (fun i => (i.zero, i.size, i.bytes)) = some (some (.int .u8 0), 1, 1) := by kernel_rfl
  obtain ⟨i, h1, hz, hs, hby⟩ := info_parts hi
  have hr := run_make (P := Try.prog) w 22 5 i _ Try.underlying22 h1 hz .i64 .i64 (n : Int) (n : Int) (by omega) (by omega) (by rw [hby]; omega) (by omega)
  rw [Int.toNat_natCast, hs, Nat.mul_one] at hr
  exact ⟨_, _, hr, bAl (Below.refl _ _) _, RowIs.new _ _ _, by simp [madeCells]⟩
theorem own_full {w : World} {z n : Nat} {C : Array Value} (hr : RowIs w z C 5) (hC : C.size = n) (hn : n ≤ 100) (h : ∀ j, j < n → C[j]? = some (byteV 119)) : w.ownsRow z 5 1 (.slice (some ⟨z, 0, none⟩) (List.replicate n (119 : UInt8)).length n) (List.replicate n (119 : UInt8)).length ((List.replicate n (119 : UInt8)).map byteV) := by
  refine ⟨by simp, .inr ⟨z, n, C, rfl, Nat.le_refl _, hr, by simp, by unfold maxLen; omega, by omega, ?_⟩⟩
  apply List.ext_getElem?
  intro j
  by_cases hj : j < n
  · have := h j hj
    rw [List.getElem?_take, if_pos (by simp; omega), Array.getElem?_toList, this]
    simp [hj]
  · rw [List.getElem?_eq_none (by simp; omega), List.getElem?_eq_none (by simp; omega)]

set_option maxRecDepth 8000 in
set_option maxHeartbeats 2000000 in
theorem oddDirName_any (w : World) (b m : Nat) (v : Value) (l : List PartT) (x : World) (hm : m ≤ 600000) (hd : DN l) (hs : DS w b m v l x) :
    Calls Try.prog 31 #[.pointer (some ⟨b, 0, none⟩), v] x fun e y => ∃ v' l', e = .returned v' ∧ ON l' ∧ DS w b (m + 20) v' l' y := by
  obtain ⟨i0, hi, hz0, hz1, hz2⟩ := info_parts info_part
  have D0 := hide hs
  have HD := hide hd
  have hl1 := hd.1
  have hl3 := hd.2.1
  obtain ⟨p, t, rfl⟩ : ∃ p t, l = p :: t := by
    cases l with
    | nil => simp at hl1
    | cons p t => exact ⟨p, t, rfl⟩
  rcases hs.o.2 with ⟨_, e0⟩ | ⟨g, cap, cur, rfl, hgb, _⟩
  · omega
  clear hs hd
  go_enter Try.func31, Try.ntmps31
  go_wp2_with fail
  refine (pick_any b m 14 _ (by omega) (by omega) (by omega) (unhide D0).c).mono ?_
  rintro e w1 ⟨⟨r, r0, r1, rfl⟩, hc1, hb1⟩
  have E1 := hide ((unhide D0).step hc1 hb1)
  clear hc1 hb1 D0
  by_cases h0 : r = 0
  · subst h0
    go_wp2_with fail
    refine (of_any b (m + 2) _ three 3 _ (by omega) (by omega) (by omega) rfl ((unhide E1).al _).c (three_row _) (by have := (unhide E1).z; have := (unhide E1).t.size; omega)).mono ?_
    rintro e w2 ⟨⟨s, hs, rfl⟩, hc2, hb2⟩
    have E2 := hide (((unhide E1).al _).step hc2 hb2)
    have S2 := hide (three_size hs)
    have k0 : w2.cell? ⟨g, 0, none⟩ = some (.string p.a) := (unhide E2).o.cellAt 0 (by simp)
    have f0 := (unhide E2).o.frozenAt 0
    have F := hide ((unhide E2).setA s)
    clear hs hc2 hb2 E1
    go_wp2_with fail
    go_ret
    exact ⟨_, _, rfl, ON.setA (unhide HD) (unhide S2), (unhide F).mono (by omega)⟩
  by_cases h1 : r = 1
  · subst h1
    go_wp2_with fail
    refine (pick_any b (m + 2) 3 _ (by omega) (by omega) (by omega) (unhide E1).c).mono ?_
    rintro e w2 ⟨⟨k, k0, k1, rfl⟩, hc2, hb2⟩
    have E2 := hide ((unhide E1).step hc2 hb2)
    obtain ⟨n, hn⟩ : ∃ n : Nat, 59 + k = (n : Int) := ⟨(59 + k).toNat, by omega⟩
    have hn1 : n ≤ 61 := by omega
    obtain ⟨w3, C, hrun, hb3, hr3, hC⟩ := make_bytes n w2 (by omega)
    have E3 := hide ((unhide E2).step ((unhide E2).c.keep hb3) (But.of hb3))
    have R3 := hide hr3
    have HC := hide hC
    have zz := hide (show w.heap.size ≤ w2.heap.size from (unhide E2).t.size)
    have gz := hide ((unhide E2).o.lt g rfl).2
    clear hc2 hb2 E1 E2 hb3 hr3 hC
    go_wp2_with fail
    clear hrun
    go_loopw [26] (fun i w' => ∃ (j : Nat) (C' : Array Value), j ≤ n ∧ i = .int .i64 j ∧ Hid (RowIs w' w2.heap.size C' 5) ∧ Hid (C'.size = n) ∧ Hid (∀ q, q < j → C'[q]? = some (byteV 119)) ∧ Hid (DS w b (m + 2 + 2) (.slice (some ⟨g, 0, none⟩) (p :: t).length cap) (p :: t) w')) (fun i _ => n - (intOf i).toNat)
    case atStart => exact ⟨0, C, Nat.zero_le _, rfl, R3, HC, hide (fun q h => absurd h (Nat.not_lt_zero _)), E3⟩
    case round =>
      clear R3 HC E3
      obtain ⟨j, C', hj, rfl, hR, hS, hF, hD⟩ := hrel
      by_cases hlt : j < n
      · have f0 := (unhide hR).froz j
        have c0 := (unhide hR).cell j
        rw [Array.getElem?_eq_getElem (by rw [unhide hS]; exact hlt)] at c0
        generalize C'[j]'(by rw [unhide hS]; exact hlt) = D0 at c0
        have F2 := hide (show ∀ q, q < j + 1 → (C'.setIfInBounds j (byteV 119))[q]? = some (byteV 119) from fun q hq => by
          rw [Array.getElem?_setIfInBounds]
          by_cases e : j = q
          · subst e; rw [if_pos rfl, if_pos (by rw [unhide hS]; exact hlt)]
          · rw [if_neg e]; exact unhide hF q (by omega))
        have D2 := hide ((unhide hD).other (o := j) (byteV 119) (unhide zz) (fun g' e => by obtain rfl : g = g' := Option.some.inj e; have := unhide gz; exact Nat.ne_of_lt this))
        have R2 := hide ((unhide hR).set j (byteV 119))
        have S2 := hide (show (C'.setIfInBounds j (byteV 119)).size = n by rw [Array.size_setIfInBounds]; exact unhide hS)
        go_wp2_with fail
        exact ⟨⟨j + 1, _, by omega, by go_num, R2, S2, F2, D2⟩, by simp [intOf]; omega⟩
      · have e : j = n := by omega
        subst e
        have o1 := own_full (unhide hR) (unhide hS) (by omega) (unhide hF)
        have cv := conv_own o1
        rw [List.length_replicate] at cv
        have sz : (⟨(List.replicate j (119 : UInt8)).toArray⟩ : ByteArray).size ≤ 61 := by show (List.replicate j (119 : UInt8)).toArray.size ≤ _; rw [List.size_toArray, List.length_replicate]; exact hn1
        generalize (⟨(List.replicate j (119 : UInt8)).toArray⟩ : ByteArray) = s at cv sz
        have S2 := hide sz
        have k0 : wr.cell? ⟨g, 1, none⟩ = some (.string p.t) := (unhide hD).o.cellAt 1 (by simp; omega)
        have f0 := (unhide hD).o.frozenAt 1
        have F := hide ((unhide hD).setT s)
        clear o1 sz
        go_wp2_with fail
        go_ret
        exact ⟨_, _, rfl, ON.setT (unhide HD) (unhide S2), (unhide F).mono (by omega)⟩
  by_cases h2 : r = 2
  · subst h2
    go_wp2_with fail
    refine (of_any b (m + 2) _ pair 2 _ (by omega) (by omega) (by omega) rfl ((unhide E1).al _).c (pair_row _) (by have := (unhide E1).z; have := (unhide E1).t.size; omega)).mono ?_
    rintro e w2 ⟨⟨s, hs, rfl⟩, hc2, hb2⟩
    have E2 := hide (((unhide E1).al _).step hc2 hb2)
    have S2 := hide (pair_size hs)
    have k0 : w2.cell? ⟨g, 1, none⟩ = some (.string p.t) := (unhide E2).o.cellAt 1 (by simp; omega)
    have f0 := (unhide E2).o.frozenAt 1
    have F := hide ((unhide E2).setT s)
    clear hs hc2 hb2 E1
    go_wp2_with fail
    go_ret
    exact ⟨_, _, rfl, ON.setT (unhide HD) (unhide S2), (unhide F).mono (by omega)⟩
  by_cases h3 : r = 3
  · subst h3
    go_wp2_with fail
    refine (pick_any b (m + 2) 3 _ (by omega) (by omega) (by omega) (unhide E1).c).mono ?_
    rintro e w2 ⟨⟨k, k0, k1, rfl⟩, hc2, hb2⟩
    have E2 := hide ((unhide E1).step hc2 hb2)
    have O0 := hide (unhide HD).on
    clear hc2 hb2 E1
    go_wp2_with fail
    go_loopw [1] (fun v w' => ∃ (l' : List PartT) (a' : Option Addr) (c' : Nat), v = .slice a' l'.length c' ∧ Hid (ON l') ∧ Hid (DS w b (m + 2 + 2) v l' w')) (fun v _ => 9 - lenV v)
    case atStart => exact ⟨p :: t, _, _, rfl, O0, E2⟩
    case round =>
      obtain ⟨l', a', c', rfl, ho, hd⟩ := hrel
      have hl9 := (unhide ho).2.1
      by_cases hlt : (l'.length : Int) < 7 + k
      · go_wp2_with (at_builtin; refine wpList_append_own _ rfl _ _ 23 rfl w.heap.size 55 i0 _ 2 32 Try.underlying23 hi hz0 hz1 hz2 rfl (by decide) _ _ _ rfl ((unhide hd).o.alloc _) ⟨_, 0, none⟩ 1 1 [.string ⟨#[120]⟩, .string ⟨#[121]⟩] rfl rfl (cell_two_at _ _ rfl _ _ _) (fun x hx => by simp at hx; rcases hx with rfl | rfl <;> rfl) (by unfold maxLen; omega) (by omega) (by have := (unhide hd).t.size; simp; omega) ?_; intro u4 x4 hown4 hgrow4 _; have G4 := hide ((unhide hd).push hown4 hgrow4); clear hown4 hgrow4)
        obtain ⟨a5, c5, rfl, _⟩ := own_parts (unhide G4).o
        refine ⟨⟨_, a5, c5, rfl, hide ⟨by simp, by simp; omega, fun q hq => ?_⟩, G4⟩, ?_⟩
        · rcases List.mem_append.1 hq with hq | hq
          · exact (unhide ho).2.2 q hq
          · rw [List.mem_singleton.1 hq]; exact ⟨by decide, by decide⟩
        · simp [lenV]; omega
      · go_wp2_with fail
        go_ret
        exact ⟨_, rfl, l', unhide ho, (unhide hd).mono (by omega)⟩
  · go_wp2_with fail
    go_ret
    exact ⟨_, p :: t, rfl, (unhide HD).on, (unhide E1).mono (by omega)⟩
end Go.Proofs.Ytgfecakjdoccmaa.C
