/- impl.goodChanges, impl.rising of changes, impl.GoodLog. -/
import Derived.Test.YtpdnimchmgbijaaQChD
import Derived.Test.YtpdnimchmgbijaaQChA
namespace Go.Proofs.Ytpdnimchmgbijaa
open Go.RowKit

theorem dcs_snoc {l : List DcT} {k : Nat} (h : k < l.length) : (l.take (k + 1)).all chB = ((l.take k).all chB && chB l[k]) := by
  rw [List.take_succ_eq_append_getElem h, List.all_append]; simp
theorem dcs_no {l : List DcT} {k : Nat} (h : k < l.length) (hf : chB l[k] = false) : l.all chB = false := by
  rw [List.all_eq_false]; exact ⟨l[k], List.getElem_mem h, by simp [hf]⟩
def RisC (m : List DcT) (k : Nat) : Prop := ∀ i (h : i < m.length), 0 < i → i < k → cmpS m[i - 1].t m[i - 1].o m[i].t m[i].o < 0
theorem RisC.step {l : List DcT} {k : Nat} (h : RisC l k) (hk : k < l.length) (g : 0 < k → cmpS l[k - 1].t l[k - 1].o l[k].t l[k].o < 0) : RisC l (k + 1) := by
  intro i hi h0 hik
  rcases Nat.lt_or_ge i k with h1 | h1
  · exact h i hi h0 h1
  · obtain rfl : i = k := by omega
    exact g h0
/-- A good log. -/
def LogG (l : List DcT) : Prop := l.length ≤ 200 ∧ l.all chB = true ∧ RisC l l.length

set_option maxHeartbeats 1000000 in
theorem goodChanges_any (a : Option Addr) (len cap : Nat) (most : Int) (l : List DcT) (w : World) (hl : len ≤ maxLen) (hs : SlC w a len l) (hok : ∀ q ∈ l, DcT.Ok q) :
    Calls Try.prog 29 #[.slice a len cap, .int .i64 most] w fun e w' => e = .returned (.bool (decide ((len : Int) ≤ most) && l.all chB)) ∧ Below w.heap.size w w' := by
  unfold maxLen at hl
  by_cases hm : most < (len : Int)
  · have hg := hide (decide_eq_false (p := (len : Int) ≤ most) (by omega))
    go_enter Try.func29, Try.ntmps29
    go_wp2
    go_ret
    exact ⟨ret_bool (by rw [unhide hg]; rfl), Below.refl _ _⟩
  rw [decide_eq_true (show (len : Int) ≤ most by omega), Bool.true_and]
  have HS := hide hs
  have HO := hide hok
  clear hs hok
  go_enter Try.func29, Try.ntmps29
  go_wp2
  go_loopw [13] (fun i w' => ∃ k : Nat, k ≤ len ∧ i = .int .i64 k ∧ Hid ((l.take k).all chB = true) ∧ Hid (Below w.heap.size w w')) (fun i _ => len - (intOf i).toNat)
  case atStart => exact ⟨0, Nat.zero_le _, rfl, hide rfl, hide (Below.refl _ _)⟩
  case round =>
    obtain ⟨k, hk, rfl, ha, hb⟩ := hrel
    by_cases hlt : k < len
    · obtain ⟨b, off, rfl, hrow⟩ := ((unhide HS).keep (unhide hb)).at hlt
      have hk' : k < l.length := by rw [← (unhide HS).1]; exact hlt
      have c0 := hrow.c0 k hk'
      have c1 := hrow.c1 k hk'
      have c2 := hrow.c2 k hk'
      have c3 := hrow.c3 k hk'
      have c4 := hrow.c4 k hk'
      have c5 := hrow.c5 k hk'
      have c6 := hrow.c6 k hk'
      have c7 := hrow.c7 k hk'
      have c8 := hrow.c8 k hk'
      have ho := unhide HO _ (List.getElem_mem hk')
      have qg := hide (show ∀ w, Calls Try.prog 43 #[.agg #[.int .i64 (l[k]'hk').t, .int .i64 (l[k]'hk').o, .int .i64 (l[k]'hk').k, .int .i64 (l[k]'hk').u, .int .i64 (l[k]'hk').p, .string (l[k]'hk').pa, .string (l[k]'hk').pt, .string (l[k]'hk').a, .string (l[k]'hk').x]] w fun e w' => e = .returned (.bool (chB (l[k]'hk'))) ∧ Below w.heap.size w w' from fun w => iGoodChange_any _ _ _ _ _ _ _ _ _ w ho.pa9 ho.pt9 ho.a9 ho.x9)
      have eT := hide (dcs_snoc hk')
      have eN := hide (fun h => dcs_no hk' h)
      clear hrow ho
      generalize l[k] = A at c0 c1 c2 c3 c4 c5 c6 c7 c8 qg eT eN
      generalize chB A = T at qg eT eN
      have B1 := hide ((unhide hb).alloc (unhide hb).size (.cells #[.int .i64 A.t, .int .i64 A.o, .int .i64 A.k, .int .i64 A.u, .int .i64 A.p, .string A.pa, .string A.pt, .string A.a, .string A.x] 46))
      go_wp2_with fail
      refine (unhide qg _).mono ?_
      rintro e w1 ⟨rfl, hb1⟩
      have B2 := hide (bTr (unhide B1) hb1)
      clear hb1 B1 c0 c1 c2 c3 c4 c5 c6 c7 c8
      cases T
      · go_wp2_with fail
        go_ret
        exact ⟨ret_bool (unhide eN (by first | rfl | trivial)).symm, unhide B2⟩
      · go_wp2_with fail
        exact ⟨⟨k + 1, by omega, by go_num, hide (by rw [unhide eT, unhide ha]; rfl), B2⟩, by simp [intOf]; omega⟩
    · go_wp2_with fail
      go_ret
      have e : k = l.length := by rw [← (unhide HS).1]; omega
      exact ⟨ret_bool (by have := unhide ha; rw [e, List.take_length] at this; exact this.symm), unhide hb⟩

set_option maxHeartbeats 1000000 in
theorem risingC_any (a : Option Addr) (len cap : Nat) (l : List DcT) (w : World) (hl : len ≤ 1000) (hs : SlC w a len l) :
    Calls Try.prog 30 #[.slice a len cap, .func (.func 31) #[] #[]] w fun e w' => RetB e (RisC l l.length) ∧ Below w.heap.size w w' := by
  have HS := hide hs
  clear hs
  go_enter Try.func30, Try.ntmps30
  go_wp2
  go_loopw [5] (fun i w' => ∃ k : Nat, 1 ≤ k ∧ (k ≤ len ∨ k = 1) ∧ i = .int .i64 k ∧ Hid (Below w.heap.size w w') ∧ Hid (RisC l k)) (fun i _ => len - (intOf i).toNat)
  case atStart => exact ⟨1, Nat.le_refl _, .inr rfl, rfl, hide (Below.refl _ _), hide (fun i _ h h' => absurd h (by omega))⟩
  case round =>
    obtain ⟨k, hk1, hk, rfl, hb, hris⟩ := hrel
    by_cases hlt : k < len
    · obtain ⟨j, rfl⟩ : ∃ j, k = j + 1 := ⟨k - 1, by omega⟩
      have hk' : j + 1 < l.length := by rw [← (unhide HS).1]; exact hlt
      obtain ⟨b, off, rfl, hrow⟩ := ((unhide HS).keep (unhide hb)).at hlt
      have zk := hrow.z
      have p0 := hrow.c0 (j + 1) hk'
      have p1 := hrow.c1 (j + 1) hk'
      have p2 := hrow.c2 (j + 1) hk'
      have p3 := hrow.c3 (j + 1) hk'
      have p4 := hrow.c4 (j + 1) hk'
      have p5 := hrow.c5 (j + 1) hk'
      have p6 := hrow.c6 (j + 1) hk'
      have p7 := hrow.c7 (j + 1) hk'
      have p8 := hrow.c8 (j + 1) hk'
      have q0 := hrow.c0 j (by omega)
      have q1 := hrow.c1 j (by omega)
      have q2 := hrow.c2 j (by omega)
      have q3 := hrow.c3 j (by omega)
      have q4 := hrow.c4 j (by omega)
      have q5 := hrow.c5 j (by omega)
      have q6 := hrow.c6 j (by omega)
      have q7 := hrow.c7 j (by omega)
      have q8 := hrow.c8 j (by omega)
      have qc := hide (fun w => logOrder_any (l[j]'(by omega)) (l[j + 1]'hk') w)
      have stepR := hide (fun g : cmpS (l[j]'(by omega)).t (l[j]'(by omega)).o (l[j + 1]'hk').t (l[j + 1]'hk').o < 0 => (unhide hris).step hk' (fun _ => g))
      have noR := hide (fun (g : ¬ cmpS (l[j]'(by omega)).t (l[j]'(by omega)).o (l[j + 1]'hk').t (l[j + 1]'hk').o < 0) (h : RisC l l.length) => g (h (j + 1) hk' (by omega) hk'))
      clear hrow
      generalize l[j + 1] = P at *
      generalize l[j] = Q at *
      have ne : Nonempty (Kept wr) := ⟨⟨wr, Below.refl _ _⟩⟩
      have x0 := kept_cell zk p0
      have y0 := kept_cell zk q0
      have x1 := kept_cell zk p1
      have y1 := kept_cell zk q1
      have x2 := kept_cell zk p2
      have y2 := kept_cell zk q2
      have x3 := kept_cell zk p3
      have y3 := kept_cell zk q3
      have x4 := kept_cell zk p4
      have y4 := kept_cell zk q4
      have x5 := kept_cell zk p5
      have y5 := kept_cell zk q5
      have x6 := kept_cell zk p6
      have y6 := kept_cell zk q6
      have x7 := kept_cell zk p7
      have y7 := kept_cell zk q7
      have x8 := kept_cell zk p8
      have y8 := kept_cell zk q8
      have ej : IntKind.i64.wrap ((j : Int) + 1 - 1) = (j : Int) := by rw [IntKind.wrap_i64]; omega
      have i0 : (0 : Int) ≤ (j : Int) := by omega
      have i1 : (j : Int) < (len : Int) := by omega
      have i2 : (j : Int) + 1 < (len : Int) := by omega
      clear p0 q0 p1 q1 p2 q2 p3 q3 p4 q4 p5 q5 p6 q6 p7 q7 p8 q8
      generalize cmpS Q.t Q.o P.t P.o = V at qc stepR noR
      by_cases hc : V < 0
      · have dc : decide (0 ≤ V) = false := by simp; omega
        replace stepR := hide (unhide stepR hc)
        clear hc
        go_wp2_with fail
        refine wp_region_kept (by kernel_rfl) (by kernel_rfl) ?_
        repeat (first
          | go_big_quiet_step ((go_at_call 31; exact kept_call (unhide qc _)))
          | quiet_step ((go_at_call 31; exact kept_call (unhide qc _))))
        refine wpQuiet_nil ?_
        rintro _ ⟨q, rfl⟩
        go_wp2_with fail
        exact ⟨⟨j + 1 + 1, by omega, by omega, by go_num, hide (bTr (unhide hb) q.h), stepR⟩, by simp [intOf]; omega⟩
      · have dc : decide (0 ≤ V) = true := by simp; omega
        replace noR := hide (unhide noR hc)
        clear hc
        go_wp2_with fail
        refine wp_region_kept (by kernel_rfl) (by kernel_rfl) ?_
        repeat (first
          | go_big_quiet_step ((go_at_call 31; exact kept_call (unhide qc _)))
          | quiet_step ((go_at_call 31; exact kept_call (unhide qc _))))
        refine wpQuiet_nil ?_
        rintro _ ⟨q, rfl⟩
        go_wp2_with fail
        go_ret
        exact ⟨retB (b := false) ⟨fun h => (by cases h), fun h => absurd h (unhide noR)⟩, bTr (unhide hb) q.h⟩
    · have hR : Hid (RisC l l.length) := hide (fun i h h0 h1 => by
        have hl' := (unhide HS).1
        exact unhide hris i h h0 (by omega))
      go_wp2_with fail
      go_ret
      exact ⟨retB (b := true) ⟨fun _ => unhide hR, fun _ => rfl⟩, unhide hb⟩

set_option maxHeartbeats 400000 in
theorem iGoodLog_any (a : Option Addr) (len cap : Nat) (l : List DcT) (w : World) (hl : len ≤ maxLen) (hs : SlC w a len l) (hok : ∀ q ∈ l, DcT.Ok q) :
    Calls Try.prog 17 #[.slice a len cap] w fun e w' => RetB e (LogG l) ∧ Below w.heap.size w w' := by
  have q1 := hide (goodChanges_any a len cap 200 l w hl hs hok)
  have q2 := hide (fun w (h : len ≤ 200) hs => risingC_any a len cap l w (by omega) hs)
  have HS := hide hs
  have hG : Hid (LogG l ↔ ((decide ((len : Int) ≤ 200) && l.all chB) = true ∧ RisC l l.length)) := hide (by
    unfold LogG; rw [hs.1]; simp only [Bool.and_eq_true, decide_eq_true_eq]
    constructor
    · rintro ⟨h1, h2, h3⟩; exact ⟨⟨by omega, h2⟩, h3⟩
    · rintro ⟨⟨h1, h2⟩, h3⟩; exact ⟨by omega, h2, h3⟩)
  generalize LogG l = G at hG
  have hle : Hid ((decide ((len : Int) ≤ 200) && l.all chB) = true → len ≤ 200) := hide (fun h => by simp at h; omega)
  generalize (decide ((len : Int) ≤ 200) && l.all chB) = T at q1 hG hle
  clear hs hok hl
  go_enter Try.func17, Try.ntmps17
  go_wp2_with fail
  refine (unhide q1).mono ?_
  rintro e w1 ⟨rfl, hb⟩
  have B := hide hb
  have HS1 := hide ((unhide HS).keep hb)
  clear hb q1 HS
  cases T
  · have no : Hid (¬ G) := hide (fun h => by have := ((unhide hG).1 h).1; cases this)
    go_wp2_with fail
    go_ret
    exact ⟨retB ⟨fun h => (by cases h), fun h => absurd h (unhide no)⟩, unhide B⟩
  go_wp2_with fail
  refine (unhide q2 _ (unhide hle (by first | rfl | trivial)) (unhide HS1)).mono ?_
  rintro e w2 ⟨⟨t, rfl, ht⟩, hb2⟩
  have HT := hide ht
  have B2 := hide (bTr (unhide B) hb2)
  clear ht hb2
  go_wp2_with fail
  go_ret
  exact ⟨retB ⟨fun h => (unhide hG).2 ⟨by first | rfl | trivial, (unhide HT).1 h⟩, fun h => (unhide HT).2 ((unhide hG).1 h).2⟩, unhide B2⟩
end Go.Proofs.Ytpdnimchmgbijaa
