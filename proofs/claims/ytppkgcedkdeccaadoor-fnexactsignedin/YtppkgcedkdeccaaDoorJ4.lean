/- DDigI, DDigJ, DIn, one behind the other. -/
import Derived.Test.YtppkgcedkdeccaaDoorJ3
import Derived.Test.YtppkgcedkdeccaaDoorJ2
/- impl.asBytes, rounds, rounds$1, take, bytes, Digest. -/
namespace Go.Proofs.YtppkgcedkdeccaaDoor.D
set_option maxRecDepth 20000
open Go.RowKit

theorem asBytes_any (n : Nat) (w : World) :
    Calls Tryd.prog 95 #[.int .i64 n] w fun e w' => e = .returned (.slice (some ⟨w.heap.size, 0, none⟩) 4 4) ∧ RowIs w' w.heap.size (cellsOf (bytes4 n)) 5 ∧ Below w.heap.size w w' := by
  have e0 : (n : Int) % 256 = ((byte4 n 0).toNat : Int) := by rw [byte4_toNat]; simp
  have e1 : (n : Int) / 256 % 256 = ((byte4 n 1).toNat : Int) := by rw [byte4_toNat]; simp
  have e2 : (n : Int) / 65536 % 256 = ((byte4 n 2).toNat : Int) := by rw [byte4_toNat]; simp
  have e3 : (n : Int) / 16777216 % 256 = ((byte4 n 3).toNat : Int) := by rw [byte4_toNat]; simp
  have hc := hide (show cellsOf (bytes4 n) = #[.int .u8 ((byte4 n 0).toNat : Int), .int .u8 ((byte4 n 1).toNat : Int), .int .u8 ((byte4 n 2).toNat : Int), .int .u8 ((byte4 n 3).toNat : Int)] from rfl)
  generalize byte4 n 0 = b0 at *
  generalize byte4 n 1 = b1 at *
  generalize byte4 n 2 = b2 at *
  generalize byte4 n 3 = b3 at *
  go_enter Tryd.func95, Tryd.ntmps95
  go_wp2_with fail
  go_ret
  refine ⟨rfl, ?_, bAl (Below.refl _ _) _⟩
  rw [unhide hc]
  exact RowIs.new _ _ _
/-- One round: its number and the next one's lie in boxes of its own. -/
def RoundAt (w : World) (L B : Nat) (v : Value) (j : Nat) : Prop := ∃ p q : Nat, v = .func (.func 102) #[] #[.pointer (some ⟨p, 0, none⟩), .pointer (some ⟨q, 0, none⟩)] ∧ L ≤ p ∧ L ≤ q ∧ p < B ∧ q < B ∧ w.cell? ⟨p, 0, none⟩ = some (.int .i64 (j : Int)) ∧ w.cell? ⟨q, 0, none⟩ = some (.int .i64 (((j : Int) + 1) % 4))
theorem RoundAt.keepB {L B : Nat} {w w' : World} {v : Value} {j : Nat} (h : RoundAt w L B v j) (hb : Below B w w') : RoundAt w' L B v j := by
  obtain ⟨p, q, e, lp, lq, hp, hq, h1, h2⟩ := h
  exact ⟨p, q, e, lp, lq, hp, hq, cellC hb hp h1, cellC hb hq h2⟩
theorem RoundAt.mono {L B B' : Nat} {w : World} {v : Value} {j : Nat} (h : RoundAt w L B v j) (hB : B ≤ B') : RoundAt w L B' v j := by
  obtain ⟨p, q, e, lp, lq, hp, hq, h1, h2⟩ := h
  exact ⟨p, q, e, lp, lq, by omega, by omega, h1, h2⟩
theorem RoundAt.but {L B z : Nat} {w w' : World} {v : Value} {j : Nat} (h : RoundAt w L B v j) (hB : B ≤ w.heap.size) (hb : But z w w') (hz : z < L) : RoundAt w' L B v j := by
  obtain ⟨p, q, e, lp, lq, hp, hq, h1, h2⟩ := h
  exact ⟨p, q, e, lp, lq, hp, hq, hb.cell (p := ⟨p, 0, none⟩) (by show p < _; omega) (by show p ≠ _; omega) h1, hb.cell (p := ⟨q, 0, none⟩) (by show q < _; omega) (by show q ≠ _; omega) h2⟩
/-- The first k rounds. -/
def Rounds (w : World) (L B : Nat) (F : List Value) (k : Nat) : Prop := F.length = 4 ∧ ∀ j, j < k → RoundAt w L B (F.getD j .nilFunc) j
theorem Rounds.keepB {L B : Nat} {w w' : World} {F : List Value} {k : Nat} (h : Rounds w L B F k) (hb : Below B w w') : Rounds w' L B F k := ⟨h.1, fun j hj => (h.2 j hj).keepB hb⟩
theorem Rounds.mono {L B B' : Nat} {w : World} {F : List Value} {k : Nat} (h : Rounds w L B F k) (hB : B ≤ B') : Rounds w L B' F k := ⟨h.1, fun j hj => (h.2 j hj).mono hB⟩
theorem Rounds.but {L B z : Nat} {w w' : World} {F : List Value} {k : Nat} (h : Rounds w L B F k) (hB : B ≤ w.heap.size) (hb : But z w w') (hz : z < L) : Rounds w' L B F k := ⟨h.1, fun j hj => (h.2 j hj).but hB hb hz⟩
theorem Rounds.set {L B : Nat} {w : World} {F : List Value} {k : Nat} (h : Rounds w L B F k) (hk : k < 4) {v : Value} (hv : RoundAt w L B v k) : Rounds w L B (F.set k v) (k + 1) := by
  refine ⟨by rw [List.length_set]; exact h.1, fun j hj => ?_⟩
  rw [List.getD_eq_getElem?_getD]
  by_cases e : k = j
  · subst e; rw [List.getElem?_set_self (by rw [h.1]; exact hk)]; exact hv
  · rw [List.getElem?_set_ne e, ← List.getD_eq_getElem?_getD]; exact h.2 j (by omega)
theorem rounds_step {wr : World} {z k : Nat} {F : List Value} (h : Rounds wr (z + 1) wr.heap.size F k) (hk : k < 4) (hz : z < wr.heap.size) :
    Rounds (((wr.alloc (.cells #[.int .i64 (k : Int)] 3)).alloc (.cells #[.int .i64 (((k : Int) + 1) % 4)] 3)).setCell ⟨z, k, none⟩ (.func (.func 102) #[] #[.pointer (some ⟨wr.heap.size, 0, none⟩), .pointer (some ⟨wr.heap.size + 1, 0, none⟩)])) (z + 1)
      (((wr.alloc (.cells #[.int .i64 (k : Int)] 3)).alloc (.cells #[.int .i64 (((k : Int) + 1) % 4)] 3)).setCell ⟨z, k, none⟩ (.func (.func 102) #[] #[.pointer (some ⟨wr.heap.size, 0, none⟩), .pointer (some ⟨wr.heap.size + 1, 0, none⟩)])).heap.size
      (F.set k (.func (.func 102) #[] #[.pointer (some ⟨wr.heap.size, 0, none⟩), .pointer (some ⟨wr.heap.size + 1, 0, none⟩)])) (k + 1) := by
  have s1 : (wr.alloc (.cells #[.int .i64 (k : Int)] 3)).heap.size = wr.heap.size + 1 := by simp
  have s2 : ((wr.alloc (.cells #[.int .i64 (k : Int)] 3)).alloc (.cells #[.int .i64 (((k : Int) + 1) % 4)] 3)).heap.size = wr.heap.size + 2 := by simp
  have hb : Below wr.heap.size wr ((wr.alloc (.cells #[.int .i64 (k : Int)] 3)).alloc (.cells #[.int .i64 (((k : Int) + 1) % 4)] 3)) := bAl (bAl (Below.refl _ _) _) _
  have r1 : RowIs ((wr.alloc (.cells #[.int .i64 (k : Int)] 3)).alloc (.cells #[.int .i64 (((k : Int) + 1) % 4)] 3)) wr.heap.size #[.int .i64 (k : Int)] 3 := (RowIs.new wr _ _).keep (bAl (Below.refl _ _) _)
  have r2 : RowIs ((wr.alloc (.cells #[.int .i64 (k : Int)] 3)).alloc (.cells #[.int .i64 (((k : Int) + 1) % 4)] 3)) (wr.heap.size + 1) #[.int .i64 (((k : Int) + 1) % 4)] 3 := by
    have := RowIs.new (wr.alloc (.cells #[.int .i64 (k : Int)] 3)) #[.int .i64 (((k : Int) + 1) % 4)] 3
    rwa [s1] at this
  generalize (wr.alloc (.cells #[.int .i64 (k : Int)] 3)).alloc (.cells #[.int .i64 (((k : Int) + 1) % 4)] 3) = W at *
  have e : (W.setCell ⟨z, k, none⟩ (.func (.func 102) #[] #[.pointer (some ⟨wr.heap.size, 0, none⟩), .pointer (some ⟨wr.heap.size + 1, 0, none⟩)])).heap.size = W.heap.size := by simp [World.setCell]
  rw [e]
  refine Rounds.but ?_ (Nat.le_refl _) ((But.refl z W).set _) (by omega)
  refine Rounds.set ((h.keepB hb).mono (by omega)) hk ⟨_, _, rfl, by omega, by omega, by omega, by omega, r1.at rfl, r2.at rfl⟩

set_option maxHeartbeats 1000000 in
theorem rounds_any (w : World) :
    Calls Tryd.prog 93 #[] w fun e w' => ∃ F : List Value, e = .returned (.agg F.toArray) ∧ Rounds w' w.heap.size w'.heap.size F 4 ∧ Below w.heap.size w w' := by
  have hsf := fun (a : Addr) (c : Array Value) (w : World) => run_store Tryd.prog w a (.func (.func 102) #[] c) .plain rfl
  go_enter Tryd.func93, Tryd.ntmps93
  go_wp2_with fail
  go_loopw [2, 3, 4] (fun _ _ i w' => ∃ (k : Nat) (F : List Value), k ≤ 4 ∧ i = .int .i64 k ∧ Hid (Rounds w' (w.heap.size + 1 + 1) w'.heap.size F k) ∧ Hid (RowIs w' (w.heap.size + 1) F.toArray 134) ∧ Hid (RowIs w' w.heap.size #[.nilFunc, .nilFunc, .nilFunc, .nilFunc] 134) ∧ Hid (Below w.heap.size w w')) (fun _ _ i _ => 4 - (intOf i).toNat)
  case atStart =>
    refine ⟨0, [.nilFunc, .nilFunc, .nilFunc, .nilFunc], by omega, rfl, hide ⟨rfl, fun j hj => absurd hj (Nat.not_lt_zero _)⟩, hide ?_, hide ?_, hide (bAl (bAl (Below.refl _ _) _) _)⟩
    · have := RowIs.new (w.alloc (.cells #[.nilFunc, .nilFunc, .nilFunc, .nilFunc] 134)) #[.nilFunc, .nilFunc, .nilFunc, .nilFunc] 134
      simpa using this
    · exact (RowIs.new w #[.nilFunc, .nilFunc, .nilFunc, .nilFunc] 134).keep (bAl (Below.refl _ _) _)
  case round =>
    obtain ⟨k, F, hk, rfl, hR, hr, hr0, hb⟩ := hrel
    by_cases hk4 : k < 4
    · have hF : F.length = 4 := (unhide hR).1
      have hz : w.heap.size + 1 < wr.heap.size := (unhide hr).lt
      have hr2 := hide ((unhide hr).keep (bAl (bAl (Below.refl wr.heap.size wr) (.cells #[.int .i64 (k : Int)] 3)) (.cells #[.int .i64 (((k : Int) + 1) % 4)] 3)))
      have c1 := (unhide hr2).at (o := k) (v := F[k]) (by simp)
      have fr := (unhide hr2).froz k
      generalize F[k] = D at c1
      have hst := hide (rounds_step (unhide hR) hk4 hz)
      go_wp2_with fail
      exact ⟨⟨k + 1, _, by omega, by go_num, hst, hide (by rw [← List.setIfInBounds_toArray]; exact (unhide hr2).set k _), hide (((unhide hr0).keep (bAl (bAl (Below.refl _ _) _) _)).setOther _ (by omega)), hide ((bAl (bAl (unhide hb) _) _).setCell (by show _ ≤ w.heap.size + 1; omega) _)⟩, by simp [intOf]; omega⟩
    · obtain rfl : k = 4 := by omega
      have hF : F.length = 4 := (unhide hR).1
      obtain ⟨f0, f1, f2, f3, rfl⟩ : ∃ f0 f1 f2 f3, F = [f0, f1, f2, f3] := by
        match F, hF with
        | [a, b, c, d], _ => exact ⟨a, b, c, d, rfl⟩
      obtain ⟨p0, q0, e0, _⟩ := (unhide hR).2 0 (by omega)
      obtain ⟨p1, q1, e1, _⟩ := (unhide hR).2 1 (by omega)
      obtain ⟨p2, q2, e2, _⟩ := (unhide hR).2 2 (by omega)
      obtain ⟨p3, q3, e3, _⟩ := (unhide hR).2 3 (by omega)
      simp only [List.getD_cons_zero, List.getD_cons_succ] at e0 e1 e2 e3
      subst e0 e1 e2 e3
      have c0 := (unhide hr).at (o := 0) rfl
      have c1 := (unhide hr).at (o := 1) rfl
      have c2 := (unhide hr).at (o := 2) rfl
      have c3 := (unhide hr).at (o := 3) rfl
      have d0 := (unhide hr0).at (o := 0) rfl
      have d1 := (unhide hr0).at (o := 1) rfl
      have d2 := (unhide hr0).at (o := 2) rfl
      have d3 := (unhide hr0).at (o := 3) rfl
      have g0 := (unhide hr0).froz 0
      have g1 := (unhide hr0).froz 1
      have g2 := (unhide hr0).froz 2
      have g3 := (unhide hr0).froz 3
      have hz : w.heap.size + 1 < wr.heap.size := (unhide hr).lt
      go_wp2_with fail
      have R4 := ((((unhide hr0).set 0 (.func (.func 102) #[] #[.pointer (some ⟨p0, 0, none⟩), .pointer (some ⟨q0, 0, none⟩)])).set 1 (.func (.func 102) #[] #[.pointer (some ⟨p1, 0, none⟩), .pointer (some ⟨q1, 0, none⟩)])).set 2 (.func (.func 102) #[] #[.pointer (some ⟨p2, 0, none⟩), .pointer (some ⟨q2, 0, none⟩)])).set 3 (.func (.func 102) #[] #[.pointer (some ⟨p3, 0, none⟩), .pointer (some ⟨q3, 0, none⟩)])
      have B4 := ((((But.refl w.heap.size wr).set (o := 0) (.func (.func 102) #[] #[.pointer (some ⟨p0, 0, none⟩), .pointer (some ⟨q0, 0, none⟩)])).set (o := 1) (.func (.func 102) #[] #[.pointer (some ⟨p1, 0, none⟩), .pointer (some ⟨q1, 0, none⟩)])).set (o := 2) (.func (.func 102) #[] #[.pointer (some ⟨p2, 0, none⟩), .pointer (some ⟨q2, 0, none⟩)])).set (o := 3) (.func (.func 102) #[] #[.pointer (some ⟨p3, 0, none⟩), .pointer (some ⟨q3, 0, none⟩)])
      have x0 := R4.at (o := 0) rfl
      have x1 := R4.at (o := 1) rfl
      have x2 := R4.at (o := 2) rfl
      have x3 := R4.at (o := 3) rfl
      have RR := (((unhide hR).but (Nat.le_refl _) B4 (by omega)).mono B4.size)
      exact bodyPost_ret (v := .agg #[.func (.func 102) #[] #[.pointer (some ⟨p0, 0, none⟩), .pointer (some ⟨q0, 0, none⟩)], .func (.func 102) #[] #[.pointer (some ⟨p1, 0, none⟩), .pointer (some ⟨q1, 0, none⟩)], .func (.func 102) #[] #[.pointer (some ⟨p2, 0, none⟩), .pointer (some ⟨q2, 0, none⟩)], .func (.func 102) #[] #[.pointer (some ⟨p3, 0, none⟩), .pointer (some ⟨q3, 0, none⟩)]])
        (by simp [results, Tryd.results93, go_sem, x0, x1, x2, x3]) rfl ⟨_, rfl, ⟨RR.1, fun j hj => by
          obtain ⟨p, q, e, lp, lq, r⟩ := RR.2 j hj
          exact ⟨p, q, e, by omega, by omega, r⟩⟩, (unhide hb).trans (B4.below (Nat.le_refl _) (by omega))⟩
end Go.Proofs.YtppkgcedkdeccaaDoor.D
/- impl.rounds$1, take. -/
namespace Go.Proofs.YtppkgcedkdeccaaDoor.D
set_option maxRecDepth 20000
open Go.RowKit

/-- The multipliers lie where the program lays them. -/
def Mults (w : World) : Prop := 0 < w.heap.size ∧ ∀ i, i < 4 → w.cell? ⟨0, i, none⟩ = some (natV (mul4 i))
theorem Mults.keepB {B : Nat} {w w' : World} (h : Mults w) (hb : Below B w w') (hB : 0 < B) : Mults w' := ⟨Nat.lt_of_lt_of_le h.1 hb.size, fun i hi => cellC hb (p := ⟨0, i, none⟩) hB (h.2 i hi)⟩
theorem Mults.but {z : Nat} {w w' : World} (h : Mults w) (hb : But z w w') (hz : 0 < z) : Mults w' := ⟨Nat.lt_of_lt_of_le h.1 hb.size, fun i hi => hb.cell (p := ⟨0, i, none⟩) h.1 (by show 0 ≠ z; omega) (h.2 i hi)⟩

theorem SlB.but {z B : Nat} {w w1 : World} {a : Option Addr} {len : Nat} {l : List UInt8} (h : SlB w B a len l) (hb : But z w w1) (hn : ∀ b off, a = some ⟨b, off, none⟩ → l ≠ [] → b ≠ z) : SlB w1 B a len l :=
  ⟨h.1, by
    by_cases hl : l = []
    · exact .inl hl
    rcases h.2 with e | ⟨b, off, e, hB, r⟩
    · exact .inl e
    · exact .inr ⟨b, off, e, hB, Nat.lt_of_lt_of_le r.z hb.size, fun i hi => hb.cell (p := ⟨b, off + i, none⟩) r.z (hn b off e hl) (r.c i hi)⟩⟩

/-- The two boxes of a round. -/
def Two (w : World) (p q j : Nat) : Prop := w.cell? ⟨p, 0, none⟩ = some (.int .i64 (j : Int)) ∧ w.cell? ⟨q, 0, none⟩ = some (.int .i64 (((j : Int) + 1) % 4))
theorem Two.keep {w w' : World} {z p q j : Nat} (h : Two w p q j) (hb : But z w w') (hz : p < w.heap.size ∧ q < w.heap.size ∧ p ≠ z ∧ q ≠ z) : Two w' p q j :=
  ⟨hb.cell (p := ⟨p, 0, none⟩) hz.1 hz.2.2.1 h.1, hb.cell (p := ⟨q, 0, none⟩) hz.2.1 hz.2.2.2 h.2⟩

set_option maxHeartbeats 2000000 in
theorem round_any (s p q x j : Nat) (D : List Nat) (w : World) (hx : x ≤ 255) (hj : j < 4) (hF : Four D) (hr : RowIs w s (intsOf D) 131) (hM : Mults w) (cp : w.cell? ⟨p, 0, none⟩ = some (.int .i64 (j : Int))) (cq : w.cell? ⟨q, 0, none⟩ = some (.int .i64 (((j : Int) + 1) % 4))) :
    Calls Tryd.prog 102 #[.pointer (some ⟨s, 0, none⟩), .int .i64 x, .pointer (some ⟨p, 0, none⟩), .pointer (some ⟨q, 0, none⟩)] w fun e w' => e = .returned (.tuple #[]) ∧ RowIs w' s (intsOf (step4 D x j)) 131 ∧ But s w w' := by
  have hq : j < D.length := by rw [hF.1]; exact hj
  have hq2 : (j + 1) % 4 < D.length := by rw [hF.1]; omega
  have c0 := hr.at (intsOf_get _ j hq)
  have c1 := hr.at (intsOf_get _ _ hq2)
  have cm := hM.2 j hj
  have fr := hr.froz j
  have hA := hF.2 j
  have hB := hF.2 ((j + 1) % 4)
  have hMm := mul4_le j
  have hst := hide (show intsOf (step4 D x j) = (intsOf D).setIfInBounds j (natV ((D.getD j 0 * mul4 j + x + 1 + D.getD ((j + 1) % 4) 0) % 2147483579)) by rw [intsOf_set]; rfl)
  have HR := hide hr
  clear hF hq hq2 hr hM
  generalize D.getD j 0 = A at c0 hA hst
  generalize D.getD ((j + 1) % 4) 0 = B at c1 hB hst
  generalize mul4 j = M at cm hMm hst
  unfold natV at c0 c1 cm
  have hp := mul_ok hA (Nat.lt_of_le_of_lt hMm (show 1103515245 < 2147483579 by decide)) (by decide)
  go_enter Tryd.func102, Tryd.ntmps102
  go_wp2_with fail
  go_region
  all_goals go_wp2_with fail
  go_end0
  have ev : natV ((A * M + x + 1 + B) % 2147483579) = .int .i64 (((A : Int) * M + x + 1 + B) % 2147483579) := by simp [natV]
  rw [ev] at hst
  exact ⟨rfl, by rw [unhide hst]; exact (unhide HR).set j _, ((But.refl s w).set _).dr 1⟩

set_option maxHeartbeats 4000000 in
theorem take_any (s : Nat) (ad : Option Addr) (len cap : Nat) (l : List UInt8) (A : List Nat) (F : List Value) (L : Nat) (w : World) (hl : len ≤ 1048576) (hs : SlB w w.heap.size ad len l) (hne : ∀ b off, ad = some ⟨b, off, none⟩ → l ≠ [] → b ≠ s) (hA : Four A) (hr : RowIs w s (intsOf A) 131) (hM : Mults w) (hF : Rounds w L s F 4) (h0 : 0 < s) :
    Calls Tryd.prog 94 #[.pointer (some ⟨s, 0, none⟩), .slice ad len cap, .agg F.toArray] w fun e w' => e = .returned (.tuple #[]) ∧ RowIs w' s (intsOf (takes A l)) 131 ∧ But s w w' := by
  have hlt := hr.lt
  obtain ⟨f0, f1, f2, f3, rfl⟩ : ∃ f0 f1 f2 f3, F = [f0, f1, f2, f3] := by
    match F, hF.1 with
    | [a, b, c, d], _ => exact ⟨a, b, c, d, rfl⟩
  obtain ⟨p0, q0, e0, _, _, lp0, lq0, t0⟩ := hF.2 0 (by omega)
  obtain ⟨p1, q1, e1, _, _, lp1, lq1, t1⟩ := hF.2 1 (by omega)
  obtain ⟨p2, q2, e2, _, _, lp2, lq2, t2⟩ := hF.2 2 (by omega)
  obtain ⟨p3, q3, e3, _, _, lp3, lq3, t3⟩ := hF.2 3 (by omega)
  simp only [List.getD_cons_zero, List.getD_cons_succ] at e0 e1 e2 e3
  subst e0 e1 e2 e3
  have T0 : Hid (Two w p0 q0 0) := hide t0
  have Z0 := hide (show p0 < w.heap.size ∧ q0 < w.heap.size ∧ p0 ≠ s ∧ q0 ≠ s by omega)
  have T1 : Hid (Two w p1 q1 1) := hide t1
  have Z1 := hide (show p1 < w.heap.size ∧ q1 < w.heap.size ∧ p1 ≠ s ∧ q1 ≠ s by omega)
  have T2 : Hid (Two w p2 q2 2) := hide t2
  have Z2 := hide (show p2 < w.heap.size ∧ q2 < w.heap.size ∧ p2 ≠ s ∧ q2 ≠ s by omega)
  have T3 : Hid (Two w p3 q3 3) := hide t3
  have Z3 := hide (show p3 < w.heap.size ∧ q3 < w.heap.size ∧ p3 ≠ s ∧ q3 ≠ s by omega)
  have HS := hide hs
  have HN := hide hne
  have hll := hide hs.1
  have HR := hide hr
  have HA := hide hA
  have HM := hide hM
  clear hs hne hr hA hM hF t0 t1 t2 t3 lp0 lp1 lp2 lp3 lq0 lq1 lq2 lq3
  go_enter Tryd.func94, Tryd.ntmps94
  go_wp2_with fail
  have HX := hide (RowIs.new w #[.func (.func 102) #[] #[.pointer (some ⟨p0, 0, none⟩), .pointer (some ⟨q0, 0, none⟩)], .func (.func 102) #[] #[.pointer (some ⟨p1, 0, none⟩), .pointer (some ⟨q1, 0, none⟩)], .func (.func 102) #[] #[.pointer (some ⟨p2, 0, none⟩), .pointer (some ⟨q2, 0, none⟩)], .func (.func 102) #[] #[.pointer (some ⟨p3, 0, none⟩), .pointer (some ⟨q3, 0, none⟩)]] 134)
  go_loopw [7, 12] (fun _ i w' => ∃ (k : Nat) (C : List Nat), k ≤ len ∧ i = .int .i64 k ∧ Hid (C = takes A (l.take k)) ∧ Hid (Four C) ∧ Hid (RowIs w' s (intsOf C) 131) ∧ Hid (RowIs w' w.heap.size #[.func (.func 102) #[] #[.pointer (some ⟨p0, 0, none⟩), .pointer (some ⟨q0, 0, none⟩)], .func (.func 102) #[] #[.pointer (some ⟨p1, 0, none⟩), .pointer (some ⟨q1, 0, none⟩)], .func (.func 102) #[] #[.pointer (some ⟨p2, 0, none⟩), .pointer (some ⟨q2, 0, none⟩)], .func (.func 102) #[] #[.pointer (some ⟨p3, 0, none⟩), .pointer (some ⟨q3, 0, none⟩)]] 134) ∧ Hid (But s w w')) (fun _ i _ => len - (intOf i).toNat)
  case atStart => exact ⟨0, A, by omega, rfl, hide (by simp [takes]), HA, hide ((unhide HR).keep (bAl (Below.refl _ _) _)), HX, hide ((But.refl _ _).al _)⟩
  case round =>
    obtain ⟨k, C, hk, rfl, hC, hFC, hr, hx, hb⟩ := hrel
    by_cases hlt1 : k < len
    · obtain ⟨b, off, rfl, _, _, hrow⟩ := ((unhide HS).but (unhide hb) (unhide HN)).at hlt1
      have hkl : k < l.length := by rw [← unhide hll]; exact hlt1
      have c0 := hrow k hkl
      have hst := hide (takes_take A l k hkl)
      rw [← unhide hC] at hst
      clear hrow
      generalize l[k] = c at c0 hst
      have hu := c.toNat_lt
      unfold byteV at c0
      have x0 := (unhide hx).at (o := 0) rfl
      have x1 := (unhide hx).at (o := 1) rfl
      have x2 := (unhide hx).at (o := 2) rfl
      have x3 := (unhide hx).at (o := 3) rfl
      go_wp2_with fail
      clear x0 x1 x2 x3 c0
      go_loopw [9, 17] (fun _ i w' => ∃ (j : Nat) (D : List Nat), j ≤ 4 ∧ i = .int .i64 j ∧ Hid (D = mixN C c.toNat j) ∧ Hid (Four D) ∧ Hid (RowIs w' s (intsOf D) 131) ∧ Hid (RowIs w' w.heap.size #[.func (.func 102) #[] #[.pointer (some ⟨p0, 0, none⟩), .pointer (some ⟨q0, 0, none⟩)], .func (.func 102) #[] #[.pointer (some ⟨p1, 0, none⟩), .pointer (some ⟨q1, 0, none⟩)], .func (.func 102) #[] #[.pointer (some ⟨p2, 0, none⟩), .pointer (some ⟨q2, 0, none⟩)], .func (.func 102) #[] #[.pointer (some ⟨p3, 0, none⟩), .pointer (some ⟨q3, 0, none⟩)]] 134) ∧ Hid (But s w w')) (fun _ i _ => 4 - (intOf i).toNat)
      case atStart => exact ⟨0, C, by omega, rfl, hide rfl, hFC, hr, hx, hb⟩
      case round =>
        obtain ⟨j, D, hj, rfl, hD, hFD, hr2, hx2, hb2⟩ := hrel
        have MW := hide ((unhide HM).but (unhide hb2) h0)
        by_cases hj4 : j < 4
        · have hc : j = 0 ∨ j = 1 ∨ j = 2 ∨ j = 3 := by omega
          rcases hc with rfl | rfl | rfl | rfl
          · have i0 : ∀ w, (Instr.index 134 (.agg #[.func (.func 102) #[] #[.pointer (some ⟨p0, 0, none⟩), .pointer (some ⟨q0, 0, none⟩)], .func (.func 102) #[] #[.pointer (some ⟨p1, 0, none⟩), .pointer (some ⟨q1, 0, none⟩)], .func (.func 102) #[] #[.pointer (some ⟨p2, 0, none⟩), .pointer (some ⟨q2, 0, none⟩)], .func (.func 102) #[] #[.pointer (some ⟨p3, 0, none⟩), .pointer (some ⟨q3, 0, none⟩)]]) (.int .i64 0)).run Tryd.prog w = .ok (.func (.func 102) #[] #[.pointer (some ⟨p0, 0, none⟩), .pointer (some ⟨q0, 0, none⟩)]) w := fun _ => by kernel_rfl
            have R := hide ((unhide T0).keep (unhide hb2) (unhide Z0))
            go_wp2_with fail
            refine (round_any s p0 q0 c.toNat 0 D _ (by omega) (by omega) (unhide hFD) (unhide hr2) (unhide MW) (unhide R).1 (unhide R).2).mono ?_
            rintro e w5 ⟨rfl, hr5, hb5⟩
            have R5 := hide hr5
            have B5 := hide ((unhide hb2).trans hb5)
            have X5 := hide (hb5.row (unhide hx2) (by omega))
            have F5 := hide ((unhide hFD).step c.toNat 0)
            clear hr5 hb5
            go_wp2_with fail
            exact ⟨⟨1, step4 D c.toNat 0, by omega, by go_num, hide (by rw [unhide hD]; rfl), F5, R5, X5, B5⟩, by simp [intOf]⟩
          · have i0 : ∀ w, (Instr.index 134 (.agg #[.func (.func 102) #[] #[.pointer (some ⟨p0, 0, none⟩), .pointer (some ⟨q0, 0, none⟩)], .func (.func 102) #[] #[.pointer (some ⟨p1, 0, none⟩), .pointer (some ⟨q1, 0, none⟩)], .func (.func 102) #[] #[.pointer (some ⟨p2, 0, none⟩), .pointer (some ⟨q2, 0, none⟩)], .func (.func 102) #[] #[.pointer (some ⟨p3, 0, none⟩), .pointer (some ⟨q3, 0, none⟩)]]) (.int .i64 1)).run Tryd.prog w = .ok (.func (.func 102) #[] #[.pointer (some ⟨p1, 0, none⟩), .pointer (some ⟨q1, 0, none⟩)]) w := fun _ => by kernel_rfl
            have R := hide ((unhide T1).keep (unhide hb2) (unhide Z1))
            go_wp2_with fail
            refine (round_any s p1 q1 c.toNat 1 D _ (by omega) (by omega) (unhide hFD) (unhide hr2) (unhide MW) (unhide R).1 (unhide R).2).mono ?_
            rintro e w5 ⟨rfl, hr5, hb5⟩
            have R5 := hide hr5
            have B5 := hide ((unhide hb2).trans hb5)
            have X5 := hide (hb5.row (unhide hx2) (by omega))
            have F5 := hide ((unhide hFD).step c.toNat 1)
            clear hr5 hb5
            go_wp2_with fail
            exact ⟨⟨2, step4 D c.toNat 1, by omega, by go_num, hide (by rw [unhide hD]; rfl), F5, R5, X5, B5⟩, by simp [intOf]⟩
          · have i0 : ∀ w, (Instr.index 134 (.agg #[.func (.func 102) #[] #[.pointer (some ⟨p0, 0, none⟩), .pointer (some ⟨q0, 0, none⟩)], .func (.func 102) #[] #[.pointer (some ⟨p1, 0, none⟩), .pointer (some ⟨q1, 0, none⟩)], .func (.func 102) #[] #[.pointer (some ⟨p2, 0, none⟩), .pointer (some ⟨q2, 0, none⟩)], .func (.func 102) #[] #[.pointer (some ⟨p3, 0, none⟩), .pointer (some ⟨q3, 0, none⟩)]]) (.int .i64 2)).run Tryd.prog w = .ok (.func (.func 102) #[] #[.pointer (some ⟨p2, 0, none⟩), .pointer (some ⟨q2, 0, none⟩)]) w := fun _ => by kernel_rfl
            have R := hide ((unhide T2).keep (unhide hb2) (unhide Z2))
            go_wp2_with fail
            refine (round_any s p2 q2 c.toNat 2 D _ (by omega) (by omega) (unhide hFD) (unhide hr2) (unhide MW) (unhide R).1 (unhide R).2).mono ?_
            rintro e w5 ⟨rfl, hr5, hb5⟩
            have R5 := hide hr5
            have B5 := hide ((unhide hb2).trans hb5)
            have X5 := hide (hb5.row (unhide hx2) (by omega))
            have F5 := hide ((unhide hFD).step c.toNat 2)
            clear hr5 hb5
            go_wp2_with fail
            exact ⟨⟨3, step4 D c.toNat 2, by omega, by go_num, hide (by rw [unhide hD]; rfl), F5, R5, X5, B5⟩, by simp [intOf]⟩
          · have i0 : ∀ w, (Instr.index 134 (.agg #[.func (.func 102) #[] #[.pointer (some ⟨p0, 0, none⟩), .pointer (some ⟨q0, 0, none⟩)], .func (.func 102) #[] #[.pointer (some ⟨p1, 0, none⟩), .pointer (some ⟨q1, 0, none⟩)], .func (.func 102) #[] #[.pointer (some ⟨p2, 0, none⟩), .pointer (some ⟨q2, 0, none⟩)], .func (.func 102) #[] #[.pointer (some ⟨p3, 0, none⟩), .pointer (some ⟨q3, 0, none⟩)]]) (.int .i64 3)).run Tryd.prog w = .ok (.func (.func 102) #[] #[.pointer (some ⟨p3, 0, none⟩), .pointer (some ⟨q3, 0, none⟩)]) w := fun _ => by kernel_rfl
            have R := hide ((unhide T3).keep (unhide hb2) (unhide Z3))
            go_wp2_with fail
            refine (round_any s p3 q3 c.toNat 3 D _ (by omega) (by omega) (unhide hFD) (unhide hr2) (unhide MW) (unhide R).1 (unhide R).2).mono ?_
            rintro e w5 ⟨rfl, hr5, hb5⟩
            have R5 := hide hr5
            have B5 := hide ((unhide hb2).trans hb5)
            have X5 := hide (hb5.row (unhide hx2) (by omega))
            have F5 := hide ((unhide hFD).step c.toNat 3)
            clear hr5 hb5
            go_wp2_with fail
            exact ⟨⟨4, step4 D c.toNat 3, by omega, by go_num, hide (by rw [unhide hD]; rfl), F5, R5, X5, B5⟩, by simp [intOf]⟩
        · have HD1 := hide (show D = mix C c.toNat by have := unhide hD; rwa [show j = 4 by omega] at this)
          clear hD
          go_wp2_with fail
          exact ⟨⟨k + 1, D, by omega, by go_num, hide (by rw [unhide HD1]; exact (unhide hst).symm), hFD, hr2, hx2, hb2⟩, by simp [intOf]; omega⟩
    · have HC1 := hide (show C = takes A l by have := unhide hC; rwa [List.take_of_length_le (by rw [← unhide hll]; omega)] at this)
      go_wp2_with fail
      go_end0
      exact ⟨rfl, by rw [← unhide HC1]; exact unhide hr, unhide hb⟩
end Go.Proofs.YtppkgcedkdeccaaDoor.D
/- Bytes that came in. -/
namespace Go.Proofs.YtppkgcedkdeccaaDoor.D
open Go.RowKit

theorem u8_of (n : Int) (h : (Lit.int .u8 n).wf = true) : ((UInt8.ofNat n.toNat).toNat : Int) = n := by
  have hb : 0 ≤ n ∧ n ≤ 255 := by
    simp [Lit.wf, IntKind.min, IntKind.max, IntKind.signed, IntKind.bits] at h
    omega
  simp only [UInt8.toNat_ofNat']
  omega
theorem bytes_in {w : World} {a : Option Addr} {len cap : Nat} {zs : List Int} (h : (a = none ∧ len = 0 ∧ cap = 0 ∧ zs = []) ∨
    ∃ x, a = some x ∧ len ≤ cap ∧ cap ≤ maxLen ∧ zs.length = cap ∧ (∀ i, i < zs.length → w.cell? (x.add i) = some (.int .u8 (zs.getD i 0))) ∧ ∀ n ∈ zs, (Lit.int .u8 n).wf = true) :
    (∃ l : List UInt8, SlB w w.heap.size a len l) ∧ len ≤ cap ∧ cap ≤ maxLen := by
  rcases h with ⟨rfl, rfl, rfl, rfl⟩ | ⟨x, rfl, hl, hm, hz, hc, hwf⟩
  · exact ⟨⟨[], rfl, .inl rfl⟩, Nat.le_refl _, Nat.zero_le _⟩
  refine ⟨?_, hl, hm⟩
  rcases Nat.eq_zero_or_pos len with h0 | h0
  · exact ⟨[], by rw [h0]; rfl, .inl rfl⟩
  have e0 := hc 0 (by omega)
  have hs : x.spot = none ∧ x.block < w.heap.size := by
    rw [show x.add 0 = x from rfl] at e0
    constructor
    · exact World.cell?_spot e0
    · apply Classical.byContradiction
      intro hn
      unfold World.cell? at e0
      rw [Array.getElem?_eq_none (by omega)] at e0
      simp at e0
  obtain ⟨blk, off, spot⟩ := x
  obtain ⟨hs1, hs2⟩ := hs
  simp only at hs1 hs2
  subst hs1
  refine ⟨(zs.take len).map fun n => UInt8.ofNat n.toNat, by simp; omega, .inr ⟨blk, off, rfl, hs2, hs2, fun i hi => ?_⟩⟩
  have hi' : i < zs.length := by simp at hi; omega
  have h1 := hc i hi'
  have e : (⟨blk, off, none⟩ : Addr).add i = ⟨blk, off + i, none⟩ := by
    simp only [Addr.add]
    split
    · next h => subst h; rfl
    · rfl
  rw [e] at h1
  rw [h1]
  have hw := hwf zs[i] (List.getElem_mem hi')
  simp only [List.getElem_map, List.getElem_take, byteV]
  rw [u8_of _ hw, List.getD_eq_getElem?_getD, List.getElem?_eq_getElem hi']
  rfl
end Go.Proofs.YtppkgcedkdeccaaDoor.D
