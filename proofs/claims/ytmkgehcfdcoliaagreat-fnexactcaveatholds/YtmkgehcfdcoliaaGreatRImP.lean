/- impl.goodParam, goodList at params. -/
import Derived.Test.YtmkgehcfdcoliaaGreatRPur
import Derived.Test.YtmkgehcfdcoliaaGreatWValI
namespace Go.Proofs.YtmkgehcfdcoliaaGreat.V
open Go.RowKit

set_option maxHeartbeats 400000 in
theorem goodParam_any (x : ParamT) (hx : x.Ok) (w : World) :
    Calls Tryz.prog 69 #[.agg #[.string x.f0, .int .i64 x.f1]] w fun e w' => RetB e (gPar x = true) ∧ Below w.heap.size w w' := by
  have q1 := hide (fun w => iGoodName_any x.f0 hx.o0 w)
  have R0 := hide (RowIs.new w #[.string x.f0, .int .i64 x.f1] 78)
  have B0 := hide (bAl (Below.refl w.heap.size w) (.cells #[.string x.f0, .int .i64 x.f1] 78))
  have gP : Hid (gPar x = (goodName x.f0 && (!(x.f0.toList == [116, 114, 117, 101]) && (!(x.f0.toList == [102, 97, 108, 115, 101]) && (decide (1 ≤ x.f1) && decide (x.f1 ≤ 7)))))) := hide rfl
  generalize gPar x = Z at *
  generalize goodName x.f0 = G at *
  go_enter Tryz.func69, Tryz.ntmps69
  go_wp2_with fail
  refine (unhide q1 _).mono ?_
  rintro e w1 ⟨rfl, hb⟩
  have B1 := hide (bTr (unhide B0) hb)
  have r := (unhide R0).keep hb
  have r0 := r.at (o := 0) (v := .string x.f0) rfl
  have r1 := r.at (o := 1) (v := .int .i64 x.f1) rfl
  have zr := r.lt
  clear hb r B0 R0 q1
  cases G
  · go_wp2_with fail
    go_ret
    exact ⟨retB (b := false) (by rw [unhide gP]; simp), unhide B1⟩
  cases eT : (x.f0.toList == [116, 114, 117, 101])
  case true =>
    rw [eT] at gP
    go_wp2_with fail
    go_ret
    exact ⟨retB (b := false) (by rw [unhide gP]; simp), unhide B1⟩
  cases eF : (x.f0.toList == [102, 97, 108, 115, 101])
  case true =>
    rw [eT, eF] at gP
    go_wp2_with fail
    go_ret
    exact ⟨retB (b := false) (by rw [unhide gP]; simp), unhide B1⟩
  rw [eT, eF] at gP
  by_cases d1 : 1 ≤ x.f1
  · go_wp2_with fail
    go_ret
    refine ⟨retB ?_, unhide B1⟩
    rw [unhide gP]; simp; omega
  · go_wp2_with fail
    go_ret
    refine ⟨retB ?_, unhide B1⟩
    rw [unhide gP]; simp; omega

set_option maxHeartbeats 400000 in
theorem notGood_Param  (P : ParamT → Prop) (b : Nat) (x : ParamT) (w : World) (hc : w.cell? ⟨b, 0, none⟩ = some (.func (.func 69) #[] #[]))
    (q : ∀ w' : World, Below w.heap.size w w' → Calls Tryz.prog 69 #[.agg #[.string x.f0, .int .i64 x.f1]] w' fun e w'' => RetB e (P x) ∧ Below w'.heap.size w' w'') :
    Calls Tryz.prog 94 #[.agg #[.string x.f0, .int .i64 x.f1], .pointer (some ⟨b, 0, none⟩)] w fun e w' => RetB e (¬ P x) ∧ Below w.heap.size w w' := by
  have HB := hide (bAl (Below.refl w.heap.size w) (.cells #[.string x.f0, .int .i64 x.f1] 78))
  have zb : b < w.heap.size := World.block_lt_of_cell? w ⟨b, 0, none⟩ hc
  have Q := hide (q _ (unhide HB))
  clear q
  go_enter Tryz.func94, Tryz.ntmps94
  go_wp2_with fail
  refine (unhide Q).mono ?_
  rintro e w1 ⟨⟨v, rfl, hv⟩, hb⟩
  have B1 := hide (bTr (unhide HB) hb)
  have HV := hide hv
  clear hb HB Q hc hv
  go_wp2_with fail
  go_ret
  refine ⟨retB (b := !v) ?_, unhide B1⟩
  rw [← unhide HV]; cases v <;> simp
def AllParam (P : ParamT → Prop) (l : List ParamT) (k : Nat) : Prop := ∀ i (h : i < l.length), i < k → P l[i]
theorem AllParam.step {P : ParamT → Prop} {l : List ParamT} {k : Nat} (h : AllParam P l k) (hk : k < l.length) (g : P l[k]) : AllParam P l (k + 1) := by
  intro i hi h1
  rcases Nat.lt_or_ge i k with h2 | h2
  · exact h i hi h2
  · obtain rfl : i = k := by omega
    exact g

set_option maxHeartbeats 400000 in
theorem indexBad_Param  (P : ParamT → Prop) (b : Nat) (a : Option Addr) (len cap : Nat) (l : List ParamT) (w : World) (hl : len ≤ 1000) (hs : SlParam w a len l) (hc : w.cell? ⟨b, 0, none⟩ = some (.func (.func 69) #[] #[]))
    (q : ∀ x ∈ l, ∀ w' : World, Below w.heap.size w w' → Calls Tryz.prog 69 #[.agg #[.string x.f0, .int .i64 x.f1]] w' fun e w'' => RetB e (P x) ∧ Below w'.heap.size w' w'') :
    Calls Tryz.prog 98 #[.slice a len cap, .func (.func 94) #[] #[.pointer (some ⟨b, 0, none⟩)]] w fun e w' => (∃ v : Int, e = .returned (.int .i64 v) ∧ (0 ≤ v ↔ ¬ AllParam P l l.length)) ∧ Below w.heap.size w w' := by
  have HS := hide hs
  have zb : b < w.heap.size := World.block_lt_of_cell? w ⟨b, 0, none⟩ hc
  have HC := hide (fun (w' : World) (h : Below w.heap.size w w') => cellB (w' := w') h zb hc)
  have HQ := hide q
  clear hs hc q
  go_enter Tryz.func98, Tryz.ntmps98
  go_wp2_with fail
  go_loopw [8] (fun i w' => ∃ k : Nat, k ≤ len ∧ i = .int .i64 k ∧ Hid (Below w.heap.size w w') ∧ Hid (AllParam P l k)) (fun i _ => len - (Go.RowKit.intOf i).toNat)
  case atStart => exact ⟨0, Nat.zero_le _, rfl, hide (Below.refl _ _), hide (fun i _ h => absurd h (Nat.not_lt_zero _))⟩
  case round =>
    obtain ⟨k, hk, rfl, hb, hA⟩ := hrel
    by_cases hlt : k < len
    · have hk' : k < l.length := by rw [← (unhide HS).1]; exact hlt
      obtain ⟨b1, off, rfl, hrow⟩ := ((unhide HS).keep (unhide hb)).at hlt
      have c0 := hrow.c0 k hk'
      have c1 := hrow.c1 k hk'
      have zk := hrow.z
      have q := hide (notGood_Param  P b l[k] wr (unhide HC _ (unhide hb)) (fun w' h => unhide HQ _ (List.getElem_mem hk') w' (bTr (unhide hb) h)))
      have eS := hide (fun g : P l[k] => (unhide hA).step hk' g)
      have eN : Hid (¬ P l[k] → ¬ AllParam P l l.length) := hide (fun g h => g (h k hk' hk'))
      clear hrow
      generalize l[k] = A at *
      go_wp2_with fail
      refine (unhide q).mono ?_
      rintro e w1 ⟨⟨v, rfl, hv⟩, hb1⟩
      have B1 := hide (bTr (unhide hb) hb1)
      have HV := hide hv
      clear hb1 q hv c0 c1
      cases v
      · have S := hide (unhide eS (Classical.byContradiction fun h => by have := (unhide HV).2 h; cases this))
        clear eS eN HV
        go_wp2_with fail
        exact ⟨⟨k + 1, by omega, by go_num, B1, S⟩, by simp [Go.RowKit.intOf]; omega⟩
      · have N := hide (unhide eN ((unhide HV).1 rfl))
        clear eS eN HV
        go_wp2_with fail
        go_ret
        exact ⟨⟨_, rfl, fun _ => unhide N, fun _ => by omega⟩, unhide B1⟩
    · have S : Hid (AllParam P l l.length) := hide (fun i h h1 => unhide hA i h (by have := (unhide HS).1; omega))
      go_wp2_with fail
      go_ret
      exact ⟨⟨_, rfl, fun h => absurd h (by decide), fun h => absurd (unhide S) h⟩, unhide hb⟩

set_option maxHeartbeats 400000 in
theorem goodList_Param  (P : ParamT → Prop) (a : Option Addr) (len cap : Nat) (l : List ParamT) (w : World) (hl : len ≤ maxLen) (hs : SlParam w a len l)
    (q : ∀ x ∈ l, ∀ w' : World, Below w.heap.size w w' → Calls Tryz.prog 69 #[.agg #[.string x.f0, .int .i64 x.f1]] w' fun e w'' => RetB e (P x) ∧ Below w'.heap.size w' w'') :
    Calls Tryz.prog 68 #[.slice a len cap, .int .i64 6, .func (.func 69) #[] #[]] w fun e w' => RetB e (len ≤ 6 ∧ AllParam P l l.length) ∧ Below w.heap.size w w' := by
  unfold maxLen at hl
  have HS := hide hs
  have HQ := hide q
  clear hs q
  by_cases h200 : (len : Int) ≤ 6
  · obtain ⟨W, hW⟩ : ∃ W, W = w.alloc (.cells #[.func (.func 69) #[] #[]] 108) := ⟨_, rfl⟩
    have R := show RowIs W w.heap.size #[.func (.func 69) #[] #[]] 108 by rw [hW]; exact RowIs.new _ _ _
    have B := hide (show Below w.heap.size w W by rw [hW]; exact bAl (Below.refl _ _) _)
    have HW := hide hW.symm
    clear hW
    have q := hide (fun hc => indexBad_Param  P w.heap.size a len cap l W (by omega) ((unhide HS).keep (unhide B)) hc (fun x hx w' h => unhide HQ x hx w' (bTr (unhide B) h)))
    have q2 : Hid (Calls Tryz.prog 93 #[.slice a len cap, .func (.func 94) #[] #[.pointer (some ⟨w.heap.size, 0, none⟩)]] W fun e w' => (∃ v : Bool, e = .returned (.bool v) ∧ (v = true ↔ ¬ AllParam P l l.length)) ∧ Below W.heap.size W w') := hide (by
      have q := hide (unhide q (R.at (o := 0) rfl))
      go_enter Tryz.func93, Tryz.ntmps93
      go_wp2_with fail
      refine (unhide q).mono ?_
      rintro e w1 ⟨⟨v, rfl, hv⟩, hb⟩
      have HV := hide hv
      clear hv
      go_wp2_with fail
      go_ret
      exact ⟨⟨decide (0 ≤ v), rfl, by rw [decide_eq_true_iff]; exact unhide HV⟩, hb⟩)
    have hst := @run_store Tryz.prog
    clear q R
    go_enter Tryz.func68, Tryz.ntmps68
    go_wp2_with fail
    rw [unhide HW]
    refine (unhide q2).mono ?_
    rintro e w1 ⟨⟨v, rfl, hv⟩, hb⟩
    have HV := hide hv
    have B1 := hide (bTr (unhide B) hb)
    clear hv hb q2 hst HW B
    go_wp2_with fail
    go_ret
    refine ⟨retB (b := !v) ⟨fun h => ?_, fun h => ?_⟩, unhide B1⟩
    · cases v
      · refine ⟨by omega, ?_⟩
        have := unhide HV
        exact Classical.byContradiction fun hn => by have := this.2 hn; cases this
      · cases h
    · cases v
      · rfl
      · exact absurd h.2 ((unhide HV).1 rfl)
  · have d : decide ((len : Int) ≤ 6) = false := by simpa using h200
    have B := hide (bAl (Below.refl w.heap.size w) (.cells #[.func (.func 69) #[] #[]] 108))
    have hst := @run_store Tryz.prog
    go_enter Tryz.func68, Tryz.ntmps68
    go_wp2_with fail
    go_ret
    exact ⟨retB (b := false) ⟨fun h => (by cases h), fun h => absurd h.1 (by omega)⟩, unhide B⟩

end Go.Proofs.YtmkgehcfdcoliaaGreat.V
