/- l1Cur.oddAtom. -/
import Derived.Test.YtlnmhjihfolliaaKAtm
import Derived.Test.YtlnmhjihfolliaaSBase
import Derived.Laws.OwnMore
namespace Go.Proofs.Ytlnmhjihfolliaa.V
open Go.RowKit
set_option maxRecDepth 20000

abbrev atC (A : AtomT) : Array Value := #[.int .i64 A.x, .int .i64 A.n, .string A.t, .string A.y]
structure OS (w : World) (b m : Nat) (A : AtomT) (x : World) : Prop where
  r : RowIs x w.heap.size (atC A) 26
  z : RowIs x (w.heap.size + 1) Zero4 26
  c : CurOk x b m
  t : But b w x
  lt : b < w.heap.size
theorem OS.step {w x y : World} {b m m' : Nat} {A : AtomT} (h : OS w b m A x) (hc : CurOk y b m') (hb : But b x y) : OS w b m' A y :=
  ⟨hb.row h.r (by have := h.lt; omega), hb.row h.z (by have := h.lt; omega), hc, h.t.trans hb, h.lt⟩
theorem OS.al {w x : World} {b m : Nat} {A : AtomT} (h : OS w b m A x) (o : Obj) : OS w b m A (x.alloc o) := h.step (h.c.al o) (But.of (bAl (Below.refl _ _) o))
theorem OS.other {w x : World} {b m z o : Nat} {A : AtomT} (h : OS w b m A x) (u : Value) (hz : w.heap.size + 1 < z) : OS w b m A (x.setCell ⟨z, o, none⟩ u) :=
  ⟨h.r.setOther _ (by omega), h.z.setOther _ (by omega), h.c.setAbove _ (by have := h.lt; omega), h.t.thenBelow ((Below.refl w.heap.size x).setCell (p := ⟨z, o, none⟩) (by show w.heap.size ≤ z; omega) _), h.lt⟩
theorem OS.set {w x : World} {b m o : Nat} {A A' : AtomT} (h : OS w b m A x) (u : Value) (e : (atC A).setIfInBounds o u = atC A') : OS w b m A' (x.setCell ⟨w.heap.size, o, none⟩ u) :=
  ⟨by have := h.r.set o u; rwa [e] at this, h.z.setOther _ (by omega), h.c.setAbove _ h.lt, h.t.thenBelow ((Below.refl w.heap.size x).setCell (p := ⟨w.heap.size, o, none⟩) (Nat.le_refl _) _), h.lt⟩
theorem OS.but {w x : World} {b m : Nat} {A : AtomT} (h : OS w b m A x) (v0 v1 v2 v3 : Value) : But b w (put4 x (w.heap.size + 1) v0 v1 v2 v3) := by
  have s : ∀ (y : World) (o : Nat) (u : Value), But b w y → But b w (y.setCell ⟨w.heap.size + 1, o, none⟩ u) := fun y o u k => k.thenBelow ((Below.refl w.heap.size y).setCell (p := ⟨w.heap.size + 1, o, none⟩) (by show w.heap.size ≤ w.heap.size + 1; omega) _)
  exact s _ _ _ (s _ _ _ (s _ _ _ (s _ _ _ h.t)))
theorem three_sizeO {s : ByteArray} (h : s ∈ [(⟨#[]⟩ : ByteArray), ⟨#[120]⟩, ⟨#[97, 9, 98]⟩]) : s.size ≤ 4 := by
  simp only [List.mem_cons, List.not_mem_nil, or_false] at h
  rcases h with rfl | rfl | rfl <;> decide
theorem three_sizeP {s : ByteArray} (h : s ∈ [(⟨#[]⟩ : ByteArray), ⟨#[84]⟩, ⟨#[49, 97]⟩]) : s.size ≤ 4 := by
  simp only [List.mem_cons, List.not_mem_nil, or_false] at h
  rcases h with rfl | rfl | rfl <;> decide
def odd7 : Array Value := #[.int .i64 (-1), .int .i64 2, .int .i64 33, .int .i64 274877906945, .int .i64 100000000001, .int .i64 (-100000000000), .int .i64 65]
theorem odd_at (j : Nat) (h : j < 7) : ∃ v : Int, -9223372036854775808 ≤ v ∧ v ≤ 9223372036854775807 ∧ odd7[j]? = some (.int .i64 v) := by
  match j, h with
  | 0, _ => exact ⟨_, by decide, by decide, rfl⟩
  | 1, _ => exact ⟨_, by decide, by decide, rfl⟩
  | 2, _ => exact ⟨_, by decide, by decide, rfl⟩
  | 3, _ => exact ⟨_, by decide, by decide, rfl⟩
  | 4, _ => exact ⟨_, by decide, by decide, rfl⟩
  | 5, _ => exact ⟨_, by decide, by decide, rfl⟩
  | 6, _ => exact ⟨_, by decide, by decide, rfl⟩
theorem make_bytesO (n : Nat) (w : World) (h : n ≤ 300) : ∃ w1 C, (Instr.makeSlice 22 (.int .i64 (n : Int)) (.int .i64 (n : Int))).run Try.prog w = .ok (.slice (some ⟨w.heap.size, 0, none⟩) n n) w1 ∧
    Below w.heap.size w w1 ∧ RowIs w1 w.heap.size C 5 ∧ C.size = n := by
  have hi : (Try.prog.info? 5).map (fun i => (i.zero, i.size, i.bytes)) = some (some (.int .u8 0), 1, 1) := by kernel_rfl
  obtain ⟨i, h1, hz, hs, hby⟩ := info_parts hi
  have hr := run_make (P := Try.prog) w 22 5 i _ Try.underlying22 h1 hz .i64 .i64 (n : Int) (n : Int) (by omega) (by omega) (by rw [hby]; omega) (by omega)
  rw [Int.toNat_natCast, hs, Nat.mul_one] at hr
  exact ⟨_, _, hr, bAl (Below.refl _ _) _, RowIs.new _ _ _, by simp [madeCells]⟩
theorem own_fullO {w : World} {z n : Nat} {C : Array Value} (hr : RowIs w z C 5) (hC : C.size = n) (hn : n ≤ 300) (h : ∀ j, j < n → C[j]? = some (byteV 113)) : w.ownsRow z 5 1 (.slice (some ⟨z, 0, none⟩) (List.replicate n (113 : UInt8)).length n) (List.replicate n (113 : UInt8)).length ((List.replicate n (113 : UInt8)).map byteV) := by
  refine ⟨by simp, .inr ⟨z, n, C, rfl, Nat.le_refl _, hr, by simp, by unfold maxLen; omega, by omega, ?_⟩⟩
  apply List.ext_getElem?
  intro j
  by_cases hj : j < n
  · have := h j hj
    rw [List.getElem?_take, if_pos (by simp; omega), Array.getElem?_toList, this]
    simp [hj]
  · rw [List.getElem?_eq_none (by simp; omega), List.getElem?_eq_none (by simp; omega)]
set_option maxHeartbeats 2000000 in
theorem oddAtom_any (b m : Nat) (A : AtomT) (w : World) (hm : m ≤ 600000) (ho : A.Ok) (hc : CurOk w b m) :
    Calls Try.prog 12 #[.pointer (some ⟨b, 0, none⟩), .agg #[.int .i64 A.x, .int .i64 A.n, .string A.t, .string A.y]] w fun e w' => (∃ A' : AtomT, A'.Ok ∧ e = .returned (.agg #[.int .i64 A'.x, .int .i64 A'.n, .string A'.t, .string A'.y])) ∧ CurOk w' b (m + 40) ∧ But b w w' := by
  have hlt := hc.lt
  have HO := hide ho
  have E0 : Hid (OS w b m A ((w.alloc (.cells (atC A) 26)).alloc (.cells Zero4 26))) := hide ⟨(RowIs.new w _ _).keep (bAl (Below.refl _ _) _), by have := RowIs.new (w.alloc (.cells (atC A) 26)) Zero4 26; simpa using this, (hc.al _).al _, ((But.refl b w).al _).al _, hlt⟩
  clear hc ho
  go_enter Try.func12, Try.ntmps12
  go_wp2_with fail
  refine (pick_any b m 16 _ (by omega) (by omega) (by omega) (unhide E0).c).mono ?_
  rintro e w1 ⟨⟨r, r0, r1, rfl⟩, hc1, hb1⟩
  have E1 := hide ((unhide E0).step hc1 hb1)
  clear hc1 hb1 E0
  by_cases h0 : r = 0
  · subst h0
    go_wp2_with fail
    refine (pick_any b (m + 2) 9 _ (by omega) (by omega) (by omega) (unhide E1).c).mono ?_
    rintro e w2 ⟨⟨q, q0, q1, rfl⟩, hc2, hb2⟩
    have E2 := hide ((unhide E1).step hc2 hb2)
    have c0 := (unhide E2).r.at (o := 0) (v := .int .i64 A.x) rfl
    have g0 := (unhide E2).r.froz 0
    have E3 := hide ((unhide E2).set (o := 0) (A' := ⟨q, A.n, A.t, A.y⟩) (.int .i64 q) rfl)
    obtain ⟨⟨z0, z1, z2, z3⟩, f0, f1, f2, f3⟩ := zero_facts (unhide E3).z
    have a0 := (unhide E3).r.at (o := 0) (v := .int .i64 (q)) rfl
    have a1 := (unhide E3).r.at (o := 1) (v := .int .i64 (A.n)) rfl
    have a2 := (unhide E3).r.at (o := 2) (v := .string A.t) rfl
    have a3 := (unhide E3).r.at (o := 3) (v := .string A.y) rfl
    clear hc2 hb2 E1
    go_wp2_with fail
    have R4 := put4_row (unhide E3).z (.int .i64 (q)) (.int .i64 (A.n)) (.string A.t) (.string A.y)
    have e0 := R4.at (o := 0) rfl
    have e1 := R4.at (o := 1) rfl
    have e2 := R4.at (o := 2) rfl
    have e3 := R4.at (o := 3) rfl
    have CU := hide (put4_cur (z := w.heap.size + 1) ((unhide E3).c.mono (by omega) : CurOk _ b (m + 40)) (by omega) (.int .i64 (q)) (.int .i64 (A.n)) (.string A.t) (.string A.y))
    have BU := hide ((unhide E3).but (.int .i64 (q)) (.int .i64 (A.n)) (.string A.t) (.string A.y))
    unfold put4 at e0 e1 e2 e3 CU BU
    clear z0 z1 z2 z3 f0 f1 f2 f3 a0 a1 a2 a3 R4
    exact bodyPost_ret (v := .agg #[.int .i64 (q), .int .i64 (A.n), .string A.t, .string A.y]) (by simp [results, Try.results12, go_sem, e0, e1, e2, e3]) rfl ⟨⟨⟨q, A.n, A.t, A.y⟩, ⟨(unhide HO).n8, (unhide HO).n9, (unhide HO).t9, (unhide HO).y9⟩, rfl⟩, unhide CU, unhide BU⟩
  by_cases h1 : r = 1
  · subst h1
    go_wp2_with fail
    refine (l1Pow2_32 _).mono ?_
    rintro e w2 ⟨rfl, rfl⟩
    go_wp2_with fail
    refine (pick_any b (m + 2) 7 _ (by omega) (by omega) (by omega) ((unhide E1).al _).c).mono ?_
    rintro e w2 ⟨⟨q, q0, q1, rfl⟩, hc2, hb2⟩
    have E2 := hide (((unhide E1).al _).step hc2 hb2)
    obtain ⟨j, rfl⟩ : ∃ j : Nat, q = j := ⟨q.toNat, by omega⟩
    obtain ⟨V, hV1, hV2, hV⟩ := odd_at j (by omega)
    have s1 : b < w1.heap.size := (unhide E1).c.lt
    have RW := hide (hb2.row (RowIs.new w1 odd7 3) (by omega))
    have k0 := (unhide RW).at (o := j) hV
    have c1 := (unhide E2).r.at (o := 1) (v := .int .i64 A.n) rfl
    have g1 := (unhide E2).r.froz 1
    have E3 := hide ((unhide E2).set (o := 1) (A' := ⟨A.x, V, A.t, A.y⟩) (.int .i64 V) rfl)
    obtain ⟨⟨z0, z1, z2, z3⟩, f0, f1, f2, f3⟩ := zero_facts (unhide E3).z
    have a0 := (unhide E3).r.at (o := 0) (v := .int .i64 (A.x)) rfl
    have a1 := (unhide E3).r.at (o := 1) (v := .int .i64 (V)) rfl
    have a2 := (unhide E3).r.at (o := 2) (v := .string A.t) rfl
    have a3 := (unhide E3).r.at (o := 3) (v := .string A.y) rfl
    clear hc2 hb2 E1 hV
    go_wp2_with fail
    have R4 := put4_row (unhide E3).z (.int .i64 (A.x)) (.int .i64 (V)) (.string A.t) (.string A.y)
    have e0 := R4.at (o := 0) rfl
    have e1 := R4.at (o := 1) rfl
    have e2 := R4.at (o := 2) rfl
    have e3 := R4.at (o := 3) rfl
    have CU := hide (put4_cur (z := w.heap.size + 1) ((unhide E3).c.mono (by omega) : CurOk _ b (m + 40)) (by omega) (.int .i64 (A.x)) (.int .i64 (V)) (.string A.t) (.string A.y))
    have BU := hide ((unhide E3).but (.int .i64 (A.x)) (.int .i64 (V)) (.string A.t) (.string A.y))
    unfold put4 at e0 e1 e2 e3 CU BU
    clear z0 z1 z2 z3 f0 f1 f2 f3 a0 a1 a2 a3 R4
    exact bodyPost_ret (v := .agg #[.int .i64 (A.x), .int .i64 (V), .string A.t, .string A.y]) (by simp [results, Try.results12, go_sem, e0, e1, e2, e3]) rfl ⟨⟨⟨A.x, V, A.t, A.y⟩, ⟨hV1, hV2, (unhide HO).t9, (unhide HO).y9⟩, rfl⟩, unhide CU, unhide BU⟩
  by_cases h2 : r = 2
  · subst h2
    have zb : w1.heap.size ≠ b := by have := (unhide E1).c.lt; omega
    go_wp2_with fail
    refine (of_any b (m + 2) w1.heap.size [(⟨#[]⟩ : ByteArray), ⟨#[120]⟩, ⟨#[97, 9, 98]⟩] 3 _ (by omega) (by omega) (by omega) rfl ((unhide E1).al _).c (strs_row w1 _) zb).mono ?_
    rintro e w2 ⟨⟨s, hs, rfl⟩, hc2, hb2⟩
    have gs : s.size ≤ maxLen := by have := three_sizeO hs; unfold maxLen; omega
    have E2 := hide (((unhide E1).al _).step hc2 hb2)
    have c0 := (unhide E2).r.at (o := 2) (v := .string A.t) rfl
    have g0 := (unhide E2).r.froz 2
    have E3 := hide ((unhide E2).set (o := 2) (A' := ⟨A.x, A.n, s, A.y⟩) (.string s) rfl)
    obtain ⟨⟨z0, z1, z2, z3⟩, f0, f1, f2, f3⟩ := zero_facts (unhide E3).z
    have a0 := (unhide E3).r.at (o := 0) (v := .int .i64 (A.x)) rfl
    have a1 := (unhide E3).r.at (o := 1) (v := .int .i64 (A.n)) rfl
    have a2 := (unhide E3).r.at (o := 2) (v := .string s) rfl
    have a3 := (unhide E3).r.at (o := 3) (v := .string A.y) rfl
    clear hc2 hb2 E1 hs
    go_wp2_with fail
    have R4 := put4_row (unhide E3).z (.int .i64 (A.x)) (.int .i64 (A.n)) (.string s) (.string A.y)
    have e0 := R4.at (o := 0) rfl
    have e1 := R4.at (o := 1) rfl
    have e2 := R4.at (o := 2) rfl
    have e3 := R4.at (o := 3) rfl
    have CU := hide (put4_cur (z := w.heap.size + 1) ((unhide E3).c.mono (by omega) : CurOk _ b (m + 40)) (by omega) (.int .i64 (A.x)) (.int .i64 (A.n)) (.string s) (.string A.y))
    have BU := hide ((unhide E3).but (.int .i64 (A.x)) (.int .i64 (A.n)) (.string s) (.string A.y))
    unfold put4 at e0 e1 e2 e3 CU BU
    clear z0 z1 z2 z3 f0 f1 f2 f3 a0 a1 a2 a3 R4
    exact bodyPost_ret (v := .agg #[.int .i64 (A.x), .int .i64 (A.n), .string s, .string A.y]) (by simp [results, Try.results12, go_sem, e0, e1, e2, e3]) rfl ⟨⟨⟨A.x, A.n, s, A.y⟩, ⟨(unhide HO).n8, (unhide HO).n9, gs, (unhide HO).y9⟩, rfl⟩, unhide CU, unhide BU⟩
  by_cases h3 : r = 3
  · subst h3
    have zb : w1.heap.size ≠ b := by have := (unhide E1).c.lt; omega
    go_wp2_with fail
    refine (of_any b (m + 2) w1.heap.size [(⟨#[]⟩ : ByteArray), ⟨#[84]⟩, ⟨#[49, 97]⟩] 3 _ (by omega) (by omega) (by omega) rfl ((unhide E1).al _).c (strs_row w1 _) zb).mono ?_
    rintro e w2 ⟨⟨s, hs, rfl⟩, hc2, hb2⟩
    have gs : s.size ≤ maxLen := by have := three_sizeP hs; unfold maxLen; omega
    have E2 := hide (((unhide E1).al _).step hc2 hb2)
    have c0 := (unhide E2).r.at (o := 3) (v := .string A.y) rfl
    have g0 := (unhide E2).r.froz 3
    have E3 := hide ((unhide E2).set (o := 3) (A' := ⟨A.x, A.n, A.t, s⟩) (.string s) rfl)
    obtain ⟨⟨z0, z1, z2, z3⟩, f0, f1, f2, f3⟩ := zero_facts (unhide E3).z
    have a0 := (unhide E3).r.at (o := 0) (v := .int .i64 (A.x)) rfl
    have a1 := (unhide E3).r.at (o := 1) (v := .int .i64 (A.n)) rfl
    have a2 := (unhide E3).r.at (o := 2) (v := .string A.t) rfl
    have a3 := (unhide E3).r.at (o := 3) (v := .string s) rfl
    clear hc2 hb2 E1 hs
    go_wp2_with fail
    have R4 := put4_row (unhide E3).z (.int .i64 (A.x)) (.int .i64 (A.n)) (.string A.t) (.string s)
    have e0 := R4.at (o := 0) rfl
    have e1 := R4.at (o := 1) rfl
    have e2 := R4.at (o := 2) rfl
    have e3 := R4.at (o := 3) rfl
    have CU := hide (put4_cur (z := w.heap.size + 1) ((unhide E3).c.mono (by omega) : CurOk _ b (m + 40)) (by omega) (.int .i64 (A.x)) (.int .i64 (A.n)) (.string A.t) (.string s))
    have BU := hide ((unhide E3).but (.int .i64 (A.x)) (.int .i64 (A.n)) (.string A.t) (.string s))
    unfold put4 at e0 e1 e2 e3 CU BU
    clear z0 z1 z2 z3 f0 f1 f2 f3 a0 a1 a2 a3 R4
    exact bodyPost_ret (v := .agg #[.int .i64 (A.x), .int .i64 (A.n), .string A.t, .string s]) (by simp [results, Try.results12, go_sem, e0, e1, e2, e3]) rfl ⟨⟨⟨A.x, A.n, A.t, s⟩, ⟨(unhide HO).n8, (unhide HO).n9, (unhide HO).t9, gs⟩, rfl⟩, unhide CU, unhide BU⟩
  by_cases h4 : r = 4
  · subst h4
    go_wp2_with fail
    refine (pick_any b (m + 2) 3 _ (by omega) (by omega) (by omega) (unhide E1).c).mono ?_
    rintro e w2 ⟨⟨k, k0, k1, rfl⟩, hc2, hb2⟩
    have E2 := hide ((unhide E1).step hc2 hb2)
    obtain ⟨n, hn⟩ : ∃ n : Nat, 199 + k = (n : Int) := ⟨(199 + k).toNat, by omega⟩
    have hn1 : n ≤ 201 := by omega
    obtain ⟨w3, C, hrun, hb3, hr3, hC⟩ := make_bytesO n w2 (by omega)
    have E3 := hide ((unhide E2).step ((unhide E2).c.keep hb3) (But.of hb3))
    have R3 := hide hr3
    have HC := hide hC
    have zz := hide (show w.heap.size + 1 < w2.heap.size from (unhide E2).z.lt)
    clear hc2 hb2 E1 E2 hb3 hr3 hC
    go_wp2_with fail
    clear hrun
    go_loopw [45] (fun i w' => ∃ (j : Nat) (C' : Array Value), j ≤ n ∧ i = .int .i64 j ∧ Hid (RowIs w' w2.heap.size C' 5) ∧ Hid (C'.size = n) ∧ Hid (∀ q, q < j → C'[q]? = some (byteV 113)) ∧ Hid (OS w b (m + 2 + 2) A w')) (fun i _ => n - (intOf i).toNat)
    case atStart => exact ⟨0, C, Nat.zero_le _, rfl, R3, HC, hide (fun q h => absurd h (Nat.not_lt_zero _)), E3⟩
    case round =>
      clear R3 HC E3
      obtain ⟨j, C', hj, rfl, hR, hS, hF, hD⟩ := hrel
      by_cases hlt : j < n
      · have f0 := (unhide hR).froz j
        have c0 := (unhide hR).cell j
        rw [Array.getElem?_eq_getElem (by rw [unhide hS]; exact hlt)] at c0
        generalize C'[j]'(by rw [unhide hS]; exact hlt) = D0 at c0
        have F2 := hide (show ∀ q, q < j + 1 → (C'.setIfInBounds j (byteV 113))[q]? = some (byteV 113) from fun q hq => by
          rw [Array.getElem?_setIfInBounds]
          by_cases e : j = q
          · subst e; rw [if_pos rfl, if_pos (by rw [unhide hS]; exact hlt)]
          · rw [if_neg e]; exact unhide hF q (by omega))
        have D2 := hide ((unhide hD).other (o := j) (byteV 113) (unhide zz))
        have R2 := hide ((unhide hR).set j (byteV 113))
        have S2 := hide (show (C'.setIfInBounds j (byteV 113)).size = n by rw [Array.size_setIfInBounds]; exact unhide hS)
        go_wp2_with fail
        exact ⟨⟨j + 1, _, by omega, by go_num, R2, S2, F2, D2⟩, by simp [intOf]; omega⟩
      · have e : j = n := by omega
        subst e
        have o1 := own_fullO (unhide hR) (unhide hS) (by omega) (unhide hF)
        have cv := conv_own o1
        rw [List.length_replicate] at cv
        obtain ⟨s, hs⟩ : ∃ s : ByteArray, s = ⟨(List.replicate j (113 : UInt8)).toArray⟩ := ⟨_, rfl⟩
        have gs : s.size ≤ maxLen := by rw [hs]; show (List.replicate j (113 : UInt8)).toArray.size ≤ maxLen; unfold maxLen; simp; omega
        rw [← hs] at cv
        have c0 := (unhide hD).r.at (o := 2) (v := .string A.t) rfl
        have g0 := (unhide hD).r.froz 2
        have E4 := hide ((unhide hD).set (o := 2) (A' := ⟨A.x, A.n, s, A.y⟩) (.string s) rfl)
        obtain ⟨⟨z0, z1, z2, z3⟩, f0, f1, f2, f3⟩ := zero_facts (unhide E4).z
        have a0 := (unhide E4).r.at (o := 0) (v := .int .i64 (A.x)) rfl
        have a1 := (unhide E4).r.at (o := 1) (v := .int .i64 (A.n)) rfl
        have a2 := (unhide E4).r.at (o := 2) (v := .string s) rfl
        have a3 := (unhide E4).r.at (o := 3) (v := .string A.y) rfl
        clear o1 hs hR hS hF
        go_wp2_with fail
        have R4 := put4_row (unhide E4).z (.int .i64 (A.x)) (.int .i64 (A.n)) (.string s) (.string A.y)
        have e0 := R4.at (o := 0) rfl
        have e1 := R4.at (o := 1) rfl
        have e2 := R4.at (o := 2) rfl
        have e3 := R4.at (o := 3) rfl
        have CU := hide (put4_cur (z := w.heap.size + 1) ((unhide E4).c.mono (by omega) : CurOk _ b (m + 40)) (by omega) (.int .i64 (A.x)) (.int .i64 (A.n)) (.string s) (.string A.y))
        have BU := hide ((unhide E4).but (.int .i64 (A.x)) (.int .i64 (A.n)) (.string s) (.string A.y))
        unfold put4 at e0 e1 e2 e3 CU BU
        clear z0 z1 z2 z3 f0 f1 f2 f3 a0 a1 a2 a3 R4
        exact bodyPost_ret (v := .agg #[.int .i64 (A.x), .int .i64 (A.n), .string s, .string A.y]) (by simp [results, Try.results12, go_sem, e0, e1, e2, e3]) rfl ⟨⟨⟨A.x, A.n, s, A.y⟩, ⟨(unhide HO).n8, (unhide HO).n9, gs, (unhide HO).y9⟩, rfl⟩, unhide CU, unhide BU⟩
  obtain ⟨⟨z0, z1, z2, z3⟩, f0, f1, f2, f3⟩ := zero_facts (unhide E1).z
  have a0 := (unhide E1).r.at (o := 0) (v := .int .i64 (A.x)) rfl
  have a1 := (unhide E1).r.at (o := 1) (v := .int .i64 (A.n)) rfl
  have a2 := (unhide E1).r.at (o := 2) (v := .string A.t) rfl
  have a3 := (unhide E1).r.at (o := 3) (v := .string A.y) rfl
  go_wp2_with fail
  have R4 := put4_row (unhide E1).z (.int .i64 (A.x)) (.int .i64 (A.n)) (.string A.t) (.string A.y)
  have e0 := R4.at (o := 0) rfl
  have e1 := R4.at (o := 1) rfl
  have e2 := R4.at (o := 2) rfl
  have e3 := R4.at (o := 3) rfl
  have CU := hide (put4_cur (z := w.heap.size + 1) ((unhide E1).c.mono (by omega) : CurOk _ b (m + 40)) (by omega) (.int .i64 (A.x)) (.int .i64 (A.n)) (.string A.t) (.string A.y))
  have BU := hide ((unhide E1).but (.int .i64 (A.x)) (.int .i64 (A.n)) (.string A.t) (.string A.y))
  unfold put4 at e0 e1 e2 e3 CU BU
  clear z0 z1 z2 z3 f0 f1 f2 f3 a0 a1 a2 a3 R4
  exact bodyPost_ret (v := .agg #[.int .i64 (A.x), .int .i64 (A.n), .string A.t, .string A.y]) (by simp [results, Try.results12, go_sem, e0, e1, e2, e3]) rfl ⟨⟨⟨A.x, A.n, A.t, A.y⟩, ⟨(unhide HO).n8, (unhide HO).n9, (unhide HO).t9, (unhide HO).y9⟩, rfl⟩, unhide CU, unhide BU⟩
end Go.Proofs.Ytlnmhjihfolliaa.V
