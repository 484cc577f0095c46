/- Good lists of nests: impl.rising, goodList, GoodNests; spec.GoodNests. -/
import Derived.Test.YtakjnbdjjeccoaaGGe
namespace Go.Proofs.Ytakjnbdjjeccoaa
open Go.RowKit

def cNe (x y : NestT) : Int := cmpNe x.f0 x.f1 y.f0 y.f1
def gNe (x : NestT) : Bool := gNest x.f0 x.f1
def RisNs (m : List NestT) (k : Nat) : Prop := ∀ i (h : i < m.length), 0 < i → i < k → cNe m[i - 1] m[i] < 0
theorem RisNs.step {l : List NestT} {k : Nat} (h : RisNs l k) (hk : k < l.length) (g : 0 < k → cNe l[k - 1] l[k] < 0) : RisNs l (k + 1) := by
  intro i hi h0 h1
  rcases Nat.lt_or_ge i k with h2 | h2
  · exact h i hi h0 h2
  · obtain rfl : i = k := by omega
    exact g h0
def AllG (l : List NestT) (k : Nat) : Prop := ∀ i (h : i < l.length), i < k → gNe l[i] = true
theorem AllG.step {l : List NestT} {k : Nat} (h : AllG l k) (hk : k < l.length) (g : gNe l[k] = true) : AllG l (k + 1) := by
  intro i hi h1
  rcases Nat.lt_or_ge i k with h2 | h2
  · exact h i hi h2
  · obtain rfl : i = k := by omega
    exact g
/-- A good list of nests. -/
def GoodL (l : List NestT) : Prop := l.length ≤ 200 ∧ AllG l l.length ∧ RisNs l l.length

set_option maxHeartbeats 1000000 in
theorem risingNs_any (a : Option Addr) (len cap : Nat) (l : List NestT) (w : World) (hl : len ≤ 1000) (hs : SlNest w a len l) :
    Calls Try.prog 47 #[.slice a len cap, .func (.func 48) #[] #[]] w fun e w' => RetB e (RisNs l l.length) ∧ Below w.heap.size w w' := by
  have HS := hide hs
  clear hs
  go_enter Try.func47, Try.ntmps47
  go_wp2
  go_loopw [5] (fun i w' => ∃ k : Nat, 1 ≤ k ∧ (k ≤ len ∨ k = 1) ∧ i = .int .i64 k ∧ Hid (Below w.heap.size w w') ∧ Hid (RisNs l k)) (fun i _ => len - (Go.RowKit.intOf i).toNat)
  case atStart => exact ⟨1, Nat.le_refl _, .inr rfl, rfl, hide (Below.refl _ _), hide (fun i _ h h' => absurd h (by omega))⟩
  case round =>
    obtain ⟨k, hk1, hk, rfl, hb, hris⟩ := hrel
    by_cases hlt : k < len
    · obtain ⟨j, rfl⟩ : ∃ j, k = j + 1 := ⟨k - 1, by omega⟩
      have hk' : j + 1 < l.length := by rw [← (unhide HS).1]; exact hlt
      obtain ⟨b, off, rfl, hrow⟩ := ((unhide HS).keep (unhide hb)).at hlt
      have zk := hrow.z
      have p0 := hrow.c0 (j + 1) hk'
      have p1 := hrow.c1 (j + 1) hk'
      have q0 := hrow.c0 j (by omega)
      have q1 := hrow.c1 j (by omega)
      have qc := hide (fun w => (compareNests_gr (l[j]'(by omega)).f0 (l[j]'(by omega)).f1 (l[j + 1]'hk').f0 (l[j + 1]'hk').f1 w).mono (fun e w' (h : _ ∧ Gr w w') => And.intro h.1 h.2.below))
      have stepR := hide (fun g : cNe (l[j]'(by omega)) (l[j + 1]'hk') < 0 => (unhide hris).step hk' (fun _ => g))
      have noR := hide (fun (g : ¬ cNe (l[j]'(by omega)) (l[j + 1]'hk') < 0) (h : RisNs l l.length) => g (h (j + 1) hk' (by omega) hk'))
      clear hrow
      unfold cNe at stepR noR
      generalize l[j + 1] = P at *
      generalize l[j] = Q at *
      have ne : Nonempty (Kept wr) := ⟨⟨wr, Below.refl _ _⟩⟩
      have x0 := kept_cell zk p0
      have y0 := kept_cell zk q0
      have x1 := kept_cell zk p1
      have y1 := kept_cell zk q1
      have ej : IntKind.i64.wrap ((j : Int) + 1 - 1) = (j : Int) := by rw [IntKind.wrap_i64]; omega
      have i0 : (0 : Int) ≤ (j : Int) := by omega
      have i1 : (j : Int) < (len : Int) := by omega
      have i2 : (j : Int) + 1 < (len : Int) := by omega
      clear p0 q0 p1 q1
      generalize cmpNe Q.f0 Q.f1 P.f0 P.f1 = V at qc stepR noR
      by_cases hc : V < 0
      · have dc : decide (0 ≤ V) = false := by simp; omega
        replace stepR := hide (unhide stepR hc)
        clear hc
        go_wp2_with fail
        refine wp_region_kept (by kernel_rfl) (by kernel_rfl) ?_
        repeat (first
          | go_big_quiet_step ((go_at_call 48; exact kept_call (unhide qc _)))
          | quiet_step ((go_at_call 48; exact kept_call (unhide qc _))))
        refine wpQuiet_nil ?_
        rintro _ ⟨q, rfl⟩
        go_wp2_with fail
        exact ⟨⟨j + 1 + 1, by omega, by omega, by go_num, hide (bTr (unhide hb) q.h), stepR⟩, by simp [Go.RowKit.intOf]; omega⟩
      · have dc : decide (0 ≤ V) = true := by simp; omega
        replace noR := hide (unhide noR hc)
        clear hc
        go_wp2_with fail
        refine wp_region_kept (by kernel_rfl) (by kernel_rfl) ?_
        repeat (first
          | go_big_quiet_step ((go_at_call 48; exact kept_call (unhide qc _)))
          | quiet_step ((go_at_call 48; exact kept_call (unhide qc _))))
        refine wpQuiet_nil ?_
        rintro _ ⟨q, rfl⟩
        go_wp2_with fail
        go_ret
        exact ⟨retB (b := false) ⟨fun h => (by cases h), fun h => absurd h (unhide noR)⟩, bTr (unhide hb) q.h⟩
    · have hR : Hid (RisNs l l.length) := hide (fun i h h0 h1 => by
        have hl' := (unhide HS).1
        exact unhide hris i h h0 (by omega))
      go_wp2_with fail
      go_ret
      exact ⟨retB (b := true) ⟨fun _ => unhide hR, fun _ => rfl⟩, unhide hb⟩

set_option maxHeartbeats 400000 in
theorem notGood_any (b : Nat) (x : NestT) (hx : x.Ok) (w : World) (hc : w.cell? ⟨b, 0, none⟩ = some (.func (.func 46) #[] #[])) :
    Calls Try.prog 78 #[.agg #[.string x.f0, .string x.f1], .pointer (some ⟨b, 0, none⟩)] w fun e w' => e = .returned (.bool (!gNe x)) ∧ Below w.heap.size w w' := by
  have q := hide (fun w => goodNest_any x.f0 x.f1 hx.o0 hx.o1 w)
  have HB := hide (bAl (Below.refl w.heap.size w) (.cells #[.string x.f0, .string x.f1] 42))
  have zb : b < w.heap.size := World.block_lt_of_cell? w ⟨b, 0, none⟩ hc
  unfold gNe
  generalize gNest x.f0 x.f1 = G at q
  go_enter Try.func78, Try.ntmps78
  go_wp2_with fail
  refine (unhide q _).mono ?_
  rintro e w1 ⟨rfl, hb⟩
  have B1 := hide (bTr (unhide HB) hb)
  clear hb HB q hc
  go_wp2_with fail
  go_ret
  exact ⟨rfl, unhide B1⟩

set_option maxHeartbeats 400000 in
theorem indexBad_any (b : Nat) (a : Option Addr) (len cap : Nat) (l : List NestT) (w : World) (hl : len ≤ 1000) (hs : SlNest w a len l) (hok : ∀ q ∈ l, NestT.Ok q) (hc : w.cell? ⟨b, 0, none⟩ = some (.func (.func 46) #[] #[])) :
    Calls Try.prog 97 #[.slice a len cap, .func (.func 78) #[] #[.pointer (some ⟨b, 0, none⟩)]] w fun e w' => (∃ v : Int, e = .returned (.int .i64 v) ∧ (0 ≤ v ↔ ¬ AllG l l.length)) ∧ Below w.heap.size w w' := by
  have HS := hide hs
  have zb : b < w.heap.size := World.block_lt_of_cell? w ⟨b, 0, none⟩ hc
  have HC := hide (fun (w' : World) (h : Below w.heap.size w w') => cellB (w' := w') h zb hc)
  clear hs hc
  go_enter Try.func97, Try.ntmps97
  go_wp2_with fail
  go_loopw [8] (fun i w' => ∃ k : Nat, k ≤ len ∧ i = .int .i64 k ∧ Hid (Below w.heap.size w w') ∧ Hid (AllG l k)) (fun i _ => len - (Go.RowKit.intOf i).toNat)
  case atStart => exact ⟨0, Nat.zero_le _, rfl, hide (Below.refl _ _), hide (fun i _ h => absurd h (Nat.not_lt_zero _))⟩
  case round =>
    obtain ⟨k, hk, rfl, hb, hA⟩ := hrel
    by_cases hlt : k < len
    · have hk' : k < l.length := by rw [← (unhide HS).1]; exact hlt
      obtain ⟨b1, off, rfl, hrow⟩ := ((unhide HS).keep (unhide hb)).at hlt
      have c0 := hrow.c0 k hk'
      have c1 := hrow.c1 k hk'
      have zk := hrow.z
      have q := hide (notGood_any b l[k] (hok _ (List.getElem_mem hk')) wr (unhide HC _ (unhide hb)))
      have eS := hide (fun g : gNe l[k] = true => (unhide hA).step hk' g)
      have eN : Hid (gNe l[k] = false → ¬ AllG l l.length) := hide (fun g h => by have := h k hk' hk'; rw [g] at this; cases this)
      clear hrow
      generalize l[k] = A at c0 c1 q eS eN
      cases hg : gNe A
      · rw [hg] at q
        have N := hide (unhide eN hg)
        clear hg eS eN
        go_wp2_with fail
        refine (unhide q).mono ?_
        rintro e w1 ⟨rfl, hb1⟩
        have B1 := hide (bTr (unhide hb) hb1)
        clear hb1 q c0 c1
        go_wp2_with fail
        go_ret
        exact ⟨⟨_, rfl, fun _ => unhide N, fun _ => by omega⟩, unhide B1⟩
      · rw [hg] at q
        have S := hide (unhide eS hg)
        clear hg eS eN
        go_wp2_with fail
        refine (unhide q).mono ?_
        rintro e w1 ⟨rfl, hb1⟩
        have B1 := hide (bTr (unhide hb) hb1)
        clear hb1 q c0 c1
        go_wp2_with fail
        exact ⟨⟨k + 1, by omega, by go_num, B1, S⟩, by simp [Go.RowKit.intOf]; omega⟩
    · have S : Hid (AllG l l.length) := hide (fun i h h1 => unhide hA i h (by have := (unhide HS).1; omega))
      go_wp2_with fail
      go_ret
      exact ⟨⟨_, rfl, fun h => absurd h (by decide), fun h => absurd (unhide S) h⟩, unhide hb⟩

set_option maxHeartbeats 400000 in
theorem goodListN_any (a : Option Addr) (len cap : Nat) (l : List NestT) (w : World) (hl : len ≤ maxLen) (hs : SlNest w a len l) (hok : ∀ q ∈ l, NestT.Ok q) :
    Calls Try.prog 45 #[.slice a len cap, .int .i64 200, .func (.func 46) #[] #[]] w fun e w' => RetB e (len ≤ 200 ∧ AllG l l.length) ∧ Below w.heap.size w w' := by
  unfold maxLen at hl
  have HS := hide hs
  clear hs
  by_cases h200 : (len : Int) ≤ 200
  · obtain ⟨W, hW⟩ : ∃ W, W = w.alloc (.cells #[.func (.func 46) #[] #[]] 56) := ⟨_, rfl⟩
    have R := show RowIs W w.heap.size #[.func (.func 46) #[] #[]] 56 by rw [hW]; exact RowIs.new _ _ _
    have B := hide (show Below w.heap.size w W by rw [hW]; exact bAl (Below.refl _ _) _)
    have HW := hide hW.symm
    clear hW
    have q := hide (fun hc => indexBad_any w.heap.size a len cap l W (by omega) ((unhide HS).keep (unhide B)) hok hc)
    have q2 : Hid (Calls Try.prog 77 #[.slice a len cap, .func (.func 78) #[] #[.pointer (some ⟨w.heap.size, 0, none⟩)]] W fun e w' => (∃ v : Bool, e = .returned (.bool v) ∧ (v = true ↔ ¬ AllG l l.length)) ∧ Below W.heap.size W w') := hide (by
      have q := hide (unhide q (R.at (o := 0) rfl))
      go_enter Try.func77, Try.ntmps77
      go_wp2_with fail
      refine (unhide q).mono ?_
      rintro e w1 ⟨⟨v, rfl, hv⟩, hb⟩
      have HV := hide hv
      clear hv
      go_wp2_with fail
      go_ret
      exact ⟨⟨decide (0 ≤ v), rfl, by rw [decide_eq_true_iff]; exact unhide HV⟩, hb⟩)
    have hst := @run_store Try.prog
    clear q R
    go_enter Try.func45, Try.ntmps45
    go_wp2_with fail
    rw [unhide HW]
    refine (unhide q2).mono ?_
    rintro e w1 ⟨⟨v, rfl, hv⟩, hb⟩
    have HV := hide hv
    have B1 := hide (bTr (unhide B) hb)
    clear hv hb q2 hst HW B
    go_wp2_with fail
    go_ret
    refine ⟨retB (b := !v) ⟨fun h => ?_, fun h => ?_⟩, unhide B1⟩
    · cases v
      · refine ⟨by omega, ?_⟩
        have := unhide HV
        exact Classical.byContradiction fun hn => by have := this.2 hn; cases this
      · cases h
    · cases v
      · rfl
      · exact absurd h.2 ((unhide HV).1 rfl)
  · have d : decide ((len : Int) ≤ 200) = false := by simpa using h200
    have B := hide (bAl (Below.refl w.heap.size w) (.cells #[.func (.func 46) #[] #[]] 56))
    have hst := @run_store Try.prog
    go_enter Try.func45, Try.ntmps45
    go_wp2_with fail
    go_ret
    exact ⟨retB (b := false) ⟨fun h => (by cases h), fun h => absurd h.1 (by omega)⟩, unhide B⟩

set_option maxHeartbeats 400000 in
theorem iGoodNests_any (a : Option Addr) (len cap : Nat) (l : List NestT) (w : World) (hl : len ≤ maxLen) (hs : SlNest w a len l) (hok : ∀ q ∈ l, NestT.Ok q) :
    Calls Try.prog 14 #[.slice a len cap] w fun e w' => RetB e (GoodL l) ∧ Below w.heap.size w w' := by
  have HS := hide hs
  have q := hide (goodListN_any a len cap l w hl hs hok)
  clear hs
  go_enter Try.func14, Try.ntmps14
  go_wp2_with fail
  refine (unhide q).mono ?_
  rintro e w1 ⟨⟨v, rfl, hv⟩, hb⟩
  have B1 := hide hb
  have HV := hide hv
  clear hb hv q
  cases v
  · go_wp2_with fail
    go_ret
    exact ⟨retB (b := false) ⟨fun h => (by cases h), fun h => (unhide HV).2 ⟨by rw [(unhide HS).1]; exact h.1, h.2.1⟩⟩, unhide B1⟩
  · have h2 := (unhide HV).1 rfl
    have q := hide (risingNs_any a len cap l w1 (by omega) ((unhide HS).keep (unhide B1)))
    have hA := hide h2.2
    have hL := hide h2.1
    clear h2 HV
    go_wp2_with fail
    refine (unhide q).mono ?_
    rintro e w2 ⟨⟨v, rfl, hv⟩, hb⟩
    have B2 := hide (bTr (unhide B1) hb)
    have HV := hide hv
    clear hb hv q B1
    go_wp2_with fail
    go_ret
    refine ⟨retB (b := v) ⟨fun h => ⟨by rw [← (unhide HS).1]; exact unhide hL, unhide hA, (unhide HV).1 h⟩, fun h => (unhide HV).2 h.2.2⟩, unhide B2⟩
end Go.Proofs.Ytakjnbdjjeccoaa
