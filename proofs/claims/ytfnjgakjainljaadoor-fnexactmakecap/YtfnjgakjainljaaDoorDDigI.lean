/- impl.asBytes, rounds, rounds$1, take, bytes, Digest. -/
import Derived.Test.YtfnjgakjainljaaDoorDDigT
namespace Go.Proofs.YtfnjgakjainljaaDoor.D
set_option maxRecDepth 20000
open Go.RowKit

theorem asBytes_any (n : Nat) (w : World) :
    Calls Tryd.prog 36 #[.int .i64 n] w fun e w' => e = .returned (.slice (some ⟨w.heap.size, 0, none⟩) 4 4) ∧ RowIs w' w.heap.size (cellsOf (bytes4 n)) 5 ∧ Below w.heap.size w w' := by
  have e0 : (n : Int) % 256 = ((byte4 n 0).toNat : Int) := by rw [byte4_toNat]; simp
  have e1 : (n : Int) / 256 % 256 = ((byte4 n 1).toNat : Int) := by rw [byte4_toNat]; simp
  have e2 : (n : Int) / 65536 % 256 = ((byte4 n 2).toNat : Int) := by rw [byte4_toNat]; simp
  have e3 : (n : Int) / 16777216 % 256 = ((byte4 n 3).toNat : Int) := by rw [byte4_toNat]; simp
  have hc := hide (show cellsOf (bytes4 n) = #[.int .u8 ((byte4 n 0).toNat : Int), .int .u8 ((byte4 n 1).toNat : Int), .int .u8 ((byte4 n 2).toNat : Int), .int .u8 ((byte4 n 3).toNat : Int)] from rfl)
  generalize byte4 n 0 = b0 at *
  generalize byte4 n 1 = b1 at *
  generalize byte4 n 2 = b2 at *
  generalize byte4 n 3 = b3 at *
  go_enter Tryd.func36, Tryd.ntmps36
  go_wp2_with fail
  go_ret
  refine ⟨rfl, ?_, bAl (Below.refl _ _) _⟩
  rw [unhide hc]
  exact RowIs.new _ _ _
/-- One round: its number and the next one's lie in boxes of its own. -/
def RoundAt (w : World) (L B : Nat) (v : Value) (j : Nat) : Prop := ∃ p q : Nat, v = .func (.func 40) #[] #[.pointer (some ⟨p, 0, none⟩), .pointer (some ⟨q, 0, none⟩)] ∧ L ≤ p ∧ L ≤ q ∧ p < B ∧ q < B ∧ w.cell? ⟨p, 0, none⟩ = some (.int .i64 (j : Int)) ∧ w.cell? ⟨q, 0, none⟩ = some (.int .i64 (((j : Int) + 1) % 4))
theorem RoundAt.keepB {L B : Nat} {w w' : World} {v : Value} {j : Nat} (h : RoundAt w L B v j) (hb : Below B w w') : RoundAt w' L B v j := by
  obtain ⟨p, q, e, lp, lq, hp, hq, h1, h2⟩ := h
  exact ⟨p, q, e, lp, lq, hp, hq, cellC hb hp h1, cellC hb hq h2⟩
theorem RoundAt.mono {L B B' : Nat} {w : World} {v : Value} {j : Nat} (h : RoundAt w L B v j) (hB : B ≤ B') : RoundAt w L B' v j := by
  obtain ⟨p, q, e, lp, lq, hp, hq, h1, h2⟩ := h
  exact ⟨p, q, e, lp, lq, by omega, by omega, h1, h2⟩
theorem RoundAt.but {L B z : Nat} {w w' : World} {v : Value} {j : Nat} (h : RoundAt w L B v j) (hB : B ≤ w.heap.size) (hb : But z w w') (hz : z < L) : RoundAt w' L B v j := by
  obtain ⟨p, q, e, lp, lq, hp, hq, h1, h2⟩ := h
  exact ⟨p, q, e, lp, lq, hp, hq, hb.cell (p := ⟨p, 0, none⟩) (by show p < _; omega) (by show p ≠ _; omega) h1, hb.cell (p := ⟨q, 0, none⟩) (by show q < _; omega) (by show q ≠ _; omega) h2⟩
/-- The first k rounds. -/
def Rounds (w : World) (L B : Nat) (F : List Value) (k : Nat) : Prop := F.length = 4 ∧ ∀ j, j < k → RoundAt w L B (F.getD j .nilFunc) j
theorem Rounds.keepB {L B : Nat} {w w' : World} {F : List Value} {k : Nat} (h : Rounds w L B F k) (hb : Below B w w') : Rounds w' L B F k := ⟨h.1, fun j hj => (h.2 j hj).keepB hb⟩
theorem Rounds.mono {L B B' : Nat} {w : World} {F : List Value} {k : Nat} (h : Rounds w L B F k) (hB : B ≤ B') : Rounds w L B' F k := ⟨h.1, fun j hj => (h.2 j hj).mono hB⟩
theorem Rounds.but {L B z : Nat} {w w' : World} {F : List Value} {k : Nat} (h : Rounds w L B F k) (hB : B ≤ w.heap.size) (hb : But z w w') (hz : z < L) : Rounds w' L B F k := ⟨h.1, fun j hj => (h.2 j hj).but hB hb hz⟩
theorem Rounds.set {L B : Nat} {w : World} {F : List Value} {k : Nat} (h : Rounds w L B F k) (hk : k < 4) {v : Value} (hv : RoundAt w L B v k) : Rounds w L B (F.set k v) (k + 1) := by
  refine ⟨by rw [List.length_set]; exact h.1, fun j hj => ?_⟩
  rw [List.getD_eq_getElem?_getD]
  by_cases e : k = j
  · subst e; rw [List.getElem?_set_self (by rw [h.1]; exact hk)]; exact hv
  · rw [List.getElem?_set_ne e, ← List.getD_eq_getElem?_getD]; exact h.2 j (by omega)
theorem rounds_step {wr : World} {z k : Nat} {F : List Value} (h : Rounds wr (z + 1) wr.heap.size F k) (hk : k < 4) (hz : z < wr.heap.size) :
    Rounds (((wr.alloc (.cells #[.int .i64 (k : Int)] 3)).alloc (.cells #[.int .i64 (((k : Int) + 1) % 4)] 3)).setCell ⟨z, k, none⟩ (.func (.func 40) #[] #[.pointer (some ⟨wr.heap.size, 0, none⟩), .pointer (some ⟨wr.heap.size + 1, 0, none⟩)])) (z + 1)
      (((wr.alloc (.cells #[.int .i64 (k : Int)] 3)).alloc (.cells #[.int .i64 (((k : Int) + 1) % 4)] 3)).setCell ⟨z, k, none⟩ (.func (.func 40) #[] #[.pointer (some ⟨wr.heap.size, 0, none⟩), .pointer (some ⟨wr.heap.size + 1, 0, none⟩)])).heap.size
      (F.set k (.func (.func 40) #[] #[.pointer (some ⟨wr.heap.size, 0, none⟩), .pointer (some ⟨wr.heap.size + 1, 0, none⟩)])) (k + 1) := by
  have s1 : (wr.alloc (.cells #[.int .i64 (k : Int)] 3)).heap.size = wr.heap.size + 1 := by simp
  have s2 : ((wr.alloc (.cells #[.int .i64 (k : Int)] 3)).alloc (.cells #[.int .i64 (((k : Int) + 1) % 4)] 3)).heap.size = wr.heap.size + 2 := by simp
  have hb : Below wr.heap.size wr ((wr.alloc (.cells #[.int .i64 (k : Int)] 3)).alloc (.cells #[.int .i64 (((k : Int) + 1) % 4)] 3)) := bAl (bAl (Below.refl _ _) _) _
  have r1 : RowIs ((wr.alloc (.cells #[.int .i64 (k : Int)] 3)).alloc (.cells #[.int .i64 (((k : Int) + 1) % 4)] 3)) wr.heap.size #[.int .i64 (k : Int)] 3 := (RowIs.new wr _ _).keep (bAl (Below.refl _ _) _)
  have r2 : RowIs ((wr.alloc (.cells #[.int .i64 (k : Int)] 3)).alloc (.cells #[.int .i64 (((k : Int) + 1) % 4)] 3)) (wr.heap.size + 1) #[.int .i64 (((k : Int) + 1) % 4)] 3 := by
    have := RowIs.new (wr.alloc (.cells #[.int .i64 (k : Int)] 3)) #[.int .i64 (((k : Int) + 1) % 4)] 3
    rwa [s1] at this
  generalize (wr.alloc (.cells #[.int .i64 (k : Int)] 3)).alloc (.cells #[.int .i64 (((k : Int) + 1) % 4)] 3) = W at *
  have e : (W.setCell ⟨z, k, none⟩ (.func (.func 40) #[] #[.pointer (some ⟨wr.heap.size, 0, none⟩), .pointer (some ⟨wr.heap.size + 1, 0, none⟩)])).heap.size = W.heap.size := by simp [World.setCell]
  rw [e]
  refine Rounds.but ?_ (Nat.le_refl _) ((But.refl z W).set _) (by omega)
  refine Rounds.set ((h.keepB hb).mono (by omega)) hk ⟨_, _, rfl, by omega, by omega, by omega, by omega, r1.at rfl, r2.at rfl⟩

set_option maxHeartbeats 1000000 in
theorem rounds_any (w : World) :
    Calls Tryd.prog 34 #[] w fun e w' => ∃ F : List Value, e = .returned (.agg F.toArray) ∧ Rounds w' w.heap.size w'.heap.size F 4 ∧ Below w.heap.size w w' := by
  have hsf := fun (a : Addr) (c : Array Value) (w : World) => run_store Tryd.prog w a (.func (.func 40) #[] c) .plain rfl
  go_enter Tryd.func34, Tryd.ntmps34
  go_wp2_with fail
  go_loopw [2, 3, 4] (fun _ _ i w' => ∃ (k : Nat) (F : List Value), k ≤ 4 ∧ i = .int .i64 k ∧ Hid (Rounds w' (w.heap.size + 1 + 1) w'.heap.size F k) ∧ Hid (RowIs w' (w.heap.size + 1) F.toArray 53) ∧ Hid (RowIs w' w.heap.size #[.nilFunc, .nilFunc, .nilFunc, .nilFunc] 53) ∧ Hid (Below w.heap.size w w')) (fun _ _ i _ => 4 - (intOf i).toNat)
  case atStart =>
    refine ⟨0, [.nilFunc, .nilFunc, .nilFunc, .nilFunc], by omega, rfl, hide ⟨rfl, fun j hj => absurd hj (Nat.not_lt_zero _)⟩, hide ?_, hide ?_, hide (bAl (bAl (Below.refl _ _) _) _)⟩
    · have := RowIs.new (w.alloc (.cells #[.nilFunc, .nilFunc, .nilFunc, .nilFunc] 53)) #[.nilFunc, .nilFunc, .nilFunc, .nilFunc] 53
      simpa using this
    · exact (RowIs.new w #[.nilFunc, .nilFunc, .nilFunc, .nilFunc] 53).keep (bAl (Below.refl _ _) _)
  case round =>
    obtain ⟨k, F, hk, rfl, hR, hr, hr0, hb⟩ := hrel
    by_cases hk4 : k < 4
    · have hF : F.length = 4 := (unhide hR).1
      have hz : w.heap.size + 1 < wr.heap.size := (unhide hr).lt
      have hr2 := hide ((unhide hr).keep (bAl (bAl (Below.refl wr.heap.size wr) (.cells #[.int .i64 (k : Int)] 3)) (.cells #[.int .i64 (((k : Int) + 1) % 4)] 3)))
      have c1 := (unhide hr2).at (o := k) (v := F[k]) (by simp)
      have fr := (unhide hr2).froz k
      generalize F[k] = D at c1
      have hst := hide (rounds_step (unhide hR) hk4 hz)
      go_wp2_with fail
      exact ⟨⟨k + 1, _, by omega, by go_num, hst, hide (by rw [← List.setIfInBounds_toArray]; exact (unhide hr2).set k _), hide (((unhide hr0).keep (bAl (bAl (Below.refl _ _) _) _)).setOther _ (by omega)), hide ((bAl (bAl (unhide hb) _) _).setCell (by show _ ≤ w.heap.size + 1; omega) _)⟩, by simp [intOf]; omega⟩
    · obtain rfl : k = 4 := by omega
      have hF : F.length = 4 := (unhide hR).1
      obtain ⟨f0, f1, f2, f3, rfl⟩ : ∃ f0 f1 f2 f3, F = [f0, f1, f2, f3] := by
        match F, hF with
        | [a, b, c, d], _ => exact ⟨a, b, c, d, rfl⟩
      obtain ⟨p0, q0, e0, _⟩ := (unhide hR).2 0 (by omega)
      obtain ⟨p1, q1, e1, _⟩ := (unhide hR).2 1 (by omega)
      obtain ⟨p2, q2, e2, _⟩ := (unhide hR).2 2 (by omega)
      obtain ⟨p3, q3, e3, _⟩ := (unhide hR).2 3 (by omega)
      simp only [List.getD_cons_zero, List.getD_cons_succ] at e0 e1 e2 e3
      subst e0 e1 e2 e3
      have c0 := (unhide hr).at (o := 0) rfl
      have c1 := (unhide hr).at (o := 1) rfl
      have c2 := (unhide hr).at (o := 2) rfl
      have c3 := (unhide hr).at (o := 3) rfl
      have d0 := (unhide hr0).at (o := 0) rfl
      have d1 := (unhide hr0).at (o := 1) rfl
      have d2 := (unhide hr0).at (o := 2) rfl
      have d3 := (unhide hr0).at (o := 3) rfl
      have g0 := (unhide hr0).froz 0
      have g1 := (unhide hr0).froz 1
      have g2 := (unhide hr0).froz 2
      have g3 := (unhide hr0).froz 3
      have hz : w.heap.size + 1 < wr.heap.size := (unhide hr).lt
      go_wp2_with fail
      have R4 := ((((unhide hr0).set 0 (.func (.func 40) #[] #[.pointer (some ⟨p0, 0, none⟩), .pointer (some ⟨q0, 0, none⟩)])).set 1 (.func (.func 40) #[] #[.pointer (some ⟨p1, 0, none⟩), .pointer (some ⟨q1, 0, none⟩)])).set 2 (.func (.func 40) #[] #[.pointer (some ⟨p2, 0, none⟩), .pointer (some ⟨q2, 0, none⟩)])).set 3 (.func (.func 40) #[] #[.pointer (some ⟨p3, 0, none⟩), .pointer (some ⟨q3, 0, none⟩)])
      have B4 := ((((But.refl w.heap.size wr).set (o := 0) (.func (.func 40) #[] #[.pointer (some ⟨p0, 0, none⟩), .pointer (some ⟨q0, 0, none⟩)])).set (o := 1) (.func (.func 40) #[] #[.pointer (some ⟨p1, 0, none⟩), .pointer (some ⟨q1, 0, none⟩)])).set (o := 2) (.func (.func 40) #[] #[.pointer (some ⟨p2, 0, none⟩), .pointer (some ⟨q2, 0, none⟩)])).set (o := 3) (.func (.func 40) #[] #[.pointer (some ⟨p3, 0, none⟩), .pointer (some ⟨q3, 0, none⟩)])
      have x0 := R4.at (o := 0) rfl
      have x1 := R4.at (o := 1) rfl
      have x2 := R4.at (o := 2) rfl
      have x3 := R4.at (o := 3) rfl
      have RR := (((unhide hR).but (Nat.le_refl _) B4 (by omega)).mono B4.size)
      exact bodyPost_ret (v := .agg #[.func (.func 40) #[] #[.pointer (some ⟨p0, 0, none⟩), .pointer (some ⟨q0, 0, none⟩)], .func (.func 40) #[] #[.pointer (some ⟨p1, 0, none⟩), .pointer (some ⟨q1, 0, none⟩)], .func (.func 40) #[] #[.pointer (some ⟨p2, 0, none⟩), .pointer (some ⟨q2, 0, none⟩)], .func (.func 40) #[] #[.pointer (some ⟨p3, 0, none⟩), .pointer (some ⟨q3, 0, none⟩)]])
        (by simp [results, Tryd.results34, go_sem, x0, x1, x2, x3]) rfl ⟨_, rfl, ⟨RR.1, fun j hj => by
          obtain ⟨p, q, e, lp, lq, r⟩ := RR.2 j hj
          exact ⟨p, q, e, by omega, by omega, r⟩⟩, (unhide hb).trans (B4.below (Nat.le_refl _) (by omega))⟩
end Go.Proofs.YtfnjgakjainljaaDoor.D
