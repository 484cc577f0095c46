/- DDigT, DDigI, one behind the other. -/
import Derived.Test.YtdflnjjomljgmaaGreatDoorJ23
/- spec.l2Digest, Digest. -/
namespace Go.Proofs.YtdflnjjomljgmaaGreatDoor.D
set_option maxRecDepth 20000
open Go.RowKit

theorem takes_take (a : List Nat) (l : List UInt8) (k : Nat) (h : k < l.length) : takes a (l.take (k + 1)) = mix (takes a (l.take k)) (l[k]).toNat := by
  rw [List.take_succ_eq_append_getElem h, takes_snoc]
theorem tell_take (a : List Nat) (k : Nat) (h : k < a.length) : tell (a.take (k + 1)) = tell (a.take k) ++ bytes4 (a.getD k 0) := by
  rw [List.take_succ_eq_append_getElem h, tell_snoc, List.getD_eq_getElem?_getD, List.getElem?_eq_getElem h]; rfl
theorem rep_take (a : List Nat) (k : Nat) : takes a (List.replicate (k + 1) 0) = mix (takes a (List.replicate k 0)) 0 := by
  rw [List.replicate_succ', takes_snoc]; rfl

set_option maxHeartbeats 1000000 in
theorem l2Digest_any (ad : Option Addr) (len cap : Nat) (l : List UInt8) (w : World) (hl : len ≤ 1048576) (hs : SlB w w.heap.size ad len l) :
    Calls Tryz.prog 66 #[.slice ad len cap] w fun e w' => ∃ v D, Hid (D = dig l) ∧ e = .returned v ∧ w'.ownsRow w.heap.size 5 1 v D.length (D.map byteV) ∧ Below w.heap.size w w' := by
  obtain ⟨i0, hi, hz0, hz1, hz2⟩ := info_parts info_u8
  have HS := hide hs
  have hll := hide hs.1
  clear hs
  obtain ⟨I, hI⟩ : ∃ I : List Nat, I = [11, 22, 33, 44] := ⟨_, rfl⟩
  have FI := hide (show Four I by rw [hI]; exact four0)
  have hI2 := hide (show intsOf I = #[.int .i64 11, .int .i64 22, .int .i64 33, .int .i64 44] by rw [hI]; rfl)
  have HI := hide hI
  clear hI
  go_enter Tryz.func66, Tryz.ntmps66
  go_wp2_with fail
  have HW := hide (show RowIs (w.alloc (.cells #[.int .i64 11, .int .i64 22, .int .i64 33, .int .i64 44] 3)) w.heap.size (intsOf I) 3 by rw [unhide hI2]; exact RowIs.new _ _ _)
  have HB := hide (show Below w.heap.size w (w.alloc (.cells #[.int .i64 11, .int .i64 22, .int .i64 33, .int .i64 44] 3)) from bAl (Below.refl _ _) _)
  go_loopw [5, 15] (fun _ i w' => ∃ (k : Nat) (A : List Nat), k ≤ len ∧ i = .int .i64 k ∧ Hid (A = takes I (l.take k)) ∧ Hid (Four A) ∧ Hid (RowIs w' w.heap.size (intsOf A) 3) ∧ Hid (Below w.heap.size w w')) (fun _ i _ => len - (intOf i).toNat)
  case atStart => exact ⟨0, I, by omega, rfl, hide (by simp [takes]), FI, HW, HB⟩
  case round =>
    obtain ⟨k, A, hk, rfl, hA, hF, hr, hb⟩ := hrel
    by_cases hlt : k < len
    · obtain ⟨b, off, rfl, _, _, hrow⟩ := ((unhide HS).keep (unhide hb)).at hlt
      have hkl : k < l.length := by rw [← unhide hll]; exact hlt
      have c0 := hrow k hkl
      have hst := hide (takes_take I l k hkl)
      rw [← unhide hA] at hst
      clear hrow
      generalize l[k] = c at c0 hst
      have hu := c.toNat_lt
      unfold byteV at c0
      go_wp2_with fail
      refine (l2Mix_any w.heap.size _ c.toNat A _ (by omega) (unhide hF) (unhide hr)).mono ?_
      rintro e w2 ⟨rfl, hr2, hb2⟩
      have B2 := hide ((unhide hb).trans (hb2.below (Nat.le_refl _) (unhide hb).size))
      have R2 := hide hr2
      have F2 := hide ((unhide hF).mixN c.toNat 4)
      clear hr2 hb2
      go_wp2_with fail
      exact ⟨⟨k + 1, mix A c.toNat, by omega, by go_num, hide (unhide hst).symm, F2, R2, B2⟩, by simp [intOf]; omega⟩
    · have HA1 := hide (show A = takes I l by have := unhide hA; rwa [List.take_of_length_le (by rw [← unhide hll]; omega)] at this)
      clear hA
      go_wp2_with fail
      refine (l2Bytes_any len _ (by omega)).mono ?_
      rintro e w2 ⟨rfl, hr2, hb2⟩
      obtain ⟨Bs, hBs⟩ : ∃ Bs, bytes4 len = Bs := ⟨_, rfl⟩
      have hB4 : Bs.length = 4 := by rw [← hBs]; rfl
      rw [hBs] at hr2
      have HBs := hide hBs
      have R2 := hide hr2
      have A2 := hide ((unhide hr).keep hb2)
      have B2 := hide (bTr (unhide hb) hb2)
      have z2 := (unhide hr).lt
      obtain ⟨g2, hg2⟩ : ∃ g2, wr.heap.size = g2 := ⟨_, rfl⟩
      rw [hg2] at R2 z2 ⊢
      clear hr2 hb2 hBs hr hb
      go_wp2_with fail
      go_loopw [7, 28] (fun _ i w' => ∃ (k : Nat) (C : List Nat), k ≤ 4 ∧ i = .int .i64 k ∧ Hid (C = takes A (Bs.take k)) ∧ Hid (Four C) ∧ Hid (RowIs w' w.heap.size (intsOf C) 3) ∧ Hid (RowIs w' g2 (cellsOf Bs) 5) ∧ Hid (Below w.heap.size w w')) (fun _ i _ => 4 - (intOf i).toNat)
      case atStart => exact ⟨0, A, by omega, rfl, hide (by simp [takes]), hF, A2, R2, B2⟩
      case round =>
        obtain ⟨k2, C, hk2, rfl, hC, hFC, hr3, hr4, hb3⟩ := hrel
        by_cases hlt2 : k2 < 4
        · have hkl : k2 < Bs.length := by omega
          have c0 := (unhide hr4).at (cellsOf_get _ k2 hkl)
          have hst := hide (takes_take A Bs k2 hkl)
          rw [← unhide hC] at hst
          generalize Bs[k2] = c at c0 hst
          have hu := c.toNat_lt
          unfold byteV at c0
          go_wp2_with fail
          refine (l2Mix_any w.heap.size _ c.toNat C _ (by omega) (unhide hFC) (unhide hr3)).mono ?_
          rintro e w5 ⟨rfl, hr5, hb5⟩
          have B5 := hide ((unhide hb3).trans (hb5.below (Nat.le_refl _) (unhide hb3).size))
          have R5 := hide hr5
          have R4 := hide (hb5.row (unhide hr4) (by omega))
          have F2 := hide ((unhide hFC).mixN c.toNat 4)
          clear hr5 hb5
          go_wp2_with fail
          exact ⟨⟨k2 + 1, mix C c.toNat, by omega, by go_num, hide (unhide hst).symm, F2, R5, R4, B5⟩, by simp [intOf]; omega⟩
        · have HC1 := hide (show C = takes A Bs by have := unhide hC; rwa [List.take_of_length_le (by omega)] at this)
          clear hC hr4
          go_wp2_with fail
          go_loopw [8] (fun i w' => ∃ (k : Nat) (D : List Nat), k ≤ 8 ∧ i = .int .i64 k ∧ Hid (D = takes C (List.replicate k 0)) ∧ Hid (Four D) ∧ Hid (RowIs w' w.heap.size (intsOf D) 3) ∧ Hid (Below w.heap.size w w')) (fun i _ => 8 - (intOf i).toNat)
          case atStart => exact ⟨0, C, by omega, rfl, hide (by simp [takes]), hFC, hr3, hb3⟩
          case round =>
            obtain ⟨k3, D, hk3, rfl, hD, hFD, hr6, hb6⟩ := hrel
            by_cases hlt3 : k3 < 8
            · have hst := hide (rep_take C k3)
              rw [← unhide hD] at hst
              go_wp2_with fail
              refine (l2Mix_any w.heap.size _ 0 D _ (by omega) (unhide hFD) (unhide hr6)).mono ?_
              rintro e w5 ⟨rfl, hr5, hb5⟩
              have B5 := hide ((unhide hb6).trans (hb5.below (Nat.le_refl _) (unhide hb6).size))
              have R5 := hide hr5
              have F2 := hide ((unhide hFD).mixN 0 4)
              clear hr5 hb5
              go_wp2_with fail
              exact ⟨⟨k3 + 1, mix D 0, by omega, by go_num, hide (unhide hst).symm, F2, R5, B5⟩, by simp [intOf]; omega⟩
            · have HD1 := hide (show tell D = dig l by
                have e8 : k3 = 8 := by omega
                unfold dig digN
                rw [unhide hD, unhide HC1, unhide HA1, ← unhide HBs, unhide HI, e8, unhide hll])
              have zb := (unhide hb6).size
              have zr := (unhide hr6).lt
              have hD4 : D.length = 4 := (unhide hFD).1
              clear hD
              go_wp2_with fail
              go_loopw [9, 11, 45] (fun v _ i w' => ∃ (k : Nat) (T : List UInt8), k ≤ 4 ∧ i = .int .i64 k ∧ T.length = 4 * k ∧ Hid (T = tell (D.take k)) ∧ Hid (RowIs w' w.heap.size (intsOf D) 3) ∧ Hid (w'.ownsRow (w.heap.size + 1) 5 1 v T.length (T.map byteV)) ∧ Hid (Below w.heap.size w w')) (fun _ _ i _ => 4 - (intOf i).toNat)
              case atStart => exact ⟨0, [], by omega, rfl, rfl, hide rfl, hr6, hide (World.ownsRow_nil _ _ _ _), hb6⟩
              case round =>
                obtain ⟨k4, T, hk4, rfl, hTl, hT, hr7, ho7, hb7⟩ := hrel
                by_cases hlt4 : k4 < 4
                · have hkl : k4 < D.length := by omega
                  have c0 := (unhide hr7).at (intsOf_get _ k4 hkl)
                  have hst := hide (tell_take D k4 hkl)
                  rw [← unhide hT] at hst
                  have hN := (unhide hFD).2 k4
                  generalize D.getD k4 0 = N at c0 hst hN
                  unfold natV at c0
                  go_wp2_with fail
                  refine (l2Bytes_any N _ (by omega)).mono ?_
                  rintro e w8 ⟨rfl, hr8, hb8⟩
                  obtain ⟨Ns, hNs⟩ : ∃ Ns, bytes4 N = Ns := ⟨_, rfl⟩
                  have hN4 : Ns.length = 4 := by rw [← hNs]; rfl
                  rw [hNs] at hr8 hst
                  have R8 := hide hr8
                  have A8 := hide ((unhide hr7).keep hb8)
                  have O8 := hide (own_keep (unhide ho7) hb8)
                  have B8 := hide (bTr (unhide hb7) hb8)
                  have z8 := hr8.lt
                  have zz := (unhide A8).lt
                  clear hr8 hb8 hNs
                  go_wp2_with (at_builtin; refine wpList_append_own _ rfl _ _ 22 rfl (w.heap.size + 1) 5 i0 (.int .u8 0) 1 1 Tryz.underlying22 hi hz0 hz1 hz2 rfl (by decide) _ _ _ rfl (unhide O8) ⟨_, 0, none⟩ _ _ (Ns.map byteV) rfl (by simp; omega) (row_news (unhide R8)) one_cell (by unfold maxLen; omega) (by omega) (by omega) ?_; intro v' w9 hown9 hgrow9 _)
                  have G9 := (Below.refl (w.heap.size + 1) w8).grown hgrow9 (by omega) (fun j hj => ((unhide O8).lt j hj).1)
                  exact ⟨⟨k4 + 1, T ++ Ns, by omega, by go_num, by rw [List.length_append]; omega, hide (unhide hst).symm, hide ((unhide A8).keepB G9 (by omega)), hide (by rw [List.length_append, List.map_append, hN4]; exact hown9), hide ((unhide B8).trans (G9.mono (by omega)))⟩, by simp [intOf]; omega⟩
                · have e : T = dig l := by have := unhide hT; rw [List.take_of_length_le (by omega)] at this; rw [this, unhide HD1]
                  have E := hide e
                  clear e
                  go_wp2_with fail
                  go_ret
                  exact ⟨_, T, E, rfl, ⟨(unhide ho7).1, (unhide ho7).2.imp_right fun ⟨g, cp, cur, h1, h2, h3⟩ => ⟨g, cp, cur, h1, by omega, h3⟩⟩, unhide hb7⟩
end Go.Proofs.YtdflnjjomljgmaaGreatDoor.D
/- impl.asBytes, rounds, rounds$1, take, bytes, Digest. -/
namespace Go.Proofs.YtdflnjjomljgmaaGreatDoor.D
set_option maxRecDepth 20000
open Go.RowKit

theorem asBytes_any (n : Nat) (w : World) :
    Calls Tryz.prog 119 #[.int .i64 n] w fun e w' => e = .returned (.slice (some ⟨w.heap.size, 0, none⟩) 4 4) ∧ RowIs w' w.heap.size (cellsOf (bytes4 n)) 5 ∧ Below w.heap.size w w' := by
  have e0 : (n : Int) % 256 = ((byte4 n 0).toNat : Int) := by rw [byte4_toNat]; simp
  have e1 : (n : Int) / 256 % 256 = ((byte4 n 1).toNat : Int) := by rw [byte4_toNat]; simp
  have e2 : (n : Int) / 65536 % 256 = ((byte4 n 2).toNat : Int) := by rw [byte4_toNat]; simp
  have e3 : (n : Int) / 16777216 % 256 = ((byte4 n 3).toNat : Int) := by rw [byte4_toNat]; simp
  have hc := hide (show cellsOf (bytes4 n) = #[.int .u8 ((byte4 n 0).toNat : Int), .int .u8 ((byte4 n 1).toNat : Int), .int .u8 ((byte4 n 2).toNat : Int), .int .u8 ((byte4 n 3).toNat : Int)] from rfl)
  generalize byte4 n 0 = b0 at *
  generalize byte4 n 1 = b1 at *
  generalize byte4 n 2 = b2 at *
  generalize byte4 n 3 = b3 at *
  go_enter Tryz.func119, Tryz.ntmps119
  go_wp2_with fail
  go_ret
  refine ⟨rfl, ?_, bAl (Below.refl _ _) _⟩
  rw [unhide hc]
  exact RowIs.new _ _ _
/-- One round: its number and the next one's lie in boxes of its own. -/
def RoundAt (w : World) (L B : Nat) (v : Value) (j : Nat) : Prop := ∃ p q : Nat, v = .func (.func 134) #[] #[.pointer (some ⟨p, 0, none⟩), .pointer (some ⟨q, 0, none⟩)] ∧ L ≤ p ∧ L ≤ q ∧ p < B ∧ q < B ∧ w.cell? ⟨p, 0, none⟩ = some (.int .i64 (j : Int)) ∧ w.cell? ⟨q, 0, none⟩ = some (.int .i64 (((j : Int) + 1) % 4))
theorem RoundAt.keepB {L B : Nat} {w w' : World} {v : Value} {j : Nat} (h : RoundAt w L B v j) (hb : Below B w w') : RoundAt w' L B v j := by
  obtain ⟨p, q, e, lp, lq, hp, hq, h1, h2⟩ := h
  exact ⟨p, q, e, lp, lq, hp, hq, cellC hb hp h1, cellC hb hq h2⟩
theorem RoundAt.mono {L B B' : Nat} {w : World} {v : Value} {j : Nat} (h : RoundAt w L B v j) (hB : B ≤ B') : RoundAt w L B' v j := by
  obtain ⟨p, q, e, lp, lq, hp, hq, h1, h2⟩ := h
  exact ⟨p, q, e, lp, lq, by omega, by omega, h1, h2⟩
theorem RoundAt.but {L B z : Nat} {w w' : World} {v : Value} {j : Nat} (h : RoundAt w L B v j) (hB : B ≤ w.heap.size) (hb : But z w w') (hz : z < L) : RoundAt w' L B v j := by
  obtain ⟨p, q, e, lp, lq, hp, hq, h1, h2⟩ := h
  exact ⟨p, q, e, lp, lq, hp, hq, hb.cell (p := ⟨p, 0, none⟩) (by show p < _; omega) (by show p ≠ _; omega) h1, hb.cell (p := ⟨q, 0, none⟩) (by show q < _; omega) (by show q ≠ _; omega) h2⟩
/-- The first k rounds. -/
def Rounds (w : World) (L B : Nat) (F : List Value) (k : Nat) : Prop := F.length = 4 ∧ ∀ j, j < k → RoundAt w L B (F.getD j .nilFunc) j
theorem Rounds.keepB {L B : Nat} {w w' : World} {F : List Value} {k : Nat} (h : Rounds w L B F k) (hb : Below B w w') : Rounds w' L B F k := ⟨h.1, fun j hj => (h.2 j hj).keepB hb⟩
theorem Rounds.mono {L B B' : Nat} {w : World} {F : List Value} {k : Nat} (h : Rounds w L B F k) (hB : B ≤ B') : Rounds w L B' F k := ⟨h.1, fun j hj => (h.2 j hj).mono hB⟩
theorem Rounds.but {L B z : Nat} {w w' : World} {F : List Value} {k : Nat} (h : Rounds w L B F k) (hB : B ≤ w.heap.size) (hb : But z w w') (hz : z < L) : Rounds w' L B F k := ⟨h.1, fun j hj => (h.2 j hj).but hB hb hz⟩
theorem Rounds.set {L B : Nat} {w : World} {F : List Value} {k : Nat} (h : Rounds w L B F k) (hk : k < 4) {v : Value} (hv : RoundAt w L B v k) : Rounds w L B (F.set k v) (k + 1) := by
  refine ⟨by rw [List.length_set]; exact h.1, fun j hj => ?_⟩
  rw [List.getD_eq_getElem?_getD]
  by_cases e : k = j
  · subst e; rw [List.getElem?_set_self (by rw [h.1]; exact hk)]; exact hv
  · rw [List.getElem?_set_ne e, ← List.getD_eq_getElem?_getD]; exact h.2 j (by omega)
theorem rounds_step {wr : World} {z k : Nat} {F : List Value} (h : Rounds wr (z + 1) wr.heap.size F k) (hk : k < 4) (hz : z < wr.heap.size) :
    Rounds (((wr.alloc (.cells #[.int .i64 (k : Int)] 3)).alloc (.cells #[.int .i64 (((k : Int) + 1) % 4)] 3)).setCell ⟨z, k, none⟩ (.func (.func 134) #[] #[.pointer (some ⟨wr.heap.size, 0, none⟩), .pointer (some ⟨wr.heap.size + 1, 0, none⟩)])) (z + 1)
      (((wr.alloc (.cells #[.int .i64 (k : Int)] 3)).alloc (.cells #[.int .i64 (((k : Int) + 1) % 4)] 3)).setCell ⟨z, k, none⟩ (.func (.func 134) #[] #[.pointer (some ⟨wr.heap.size, 0, none⟩), .pointer (some ⟨wr.heap.size + 1, 0, none⟩)])).heap.size
      (F.set k (.func (.func 134) #[] #[.pointer (some ⟨wr.heap.size, 0, none⟩), .pointer (some ⟨wr.heap.size + 1, 0, none⟩)])) (k + 1) := by
  have s1 : (wr.alloc (.cells #[.int .i64 (k : Int)] 3)).heap.size = wr.heap.size + 1 := by simp
  have s2 : ((wr.alloc (.cells #[.int .i64 (k : Int)] 3)).alloc (.cells #[.int .i64 (((k : Int) + 1) % 4)] 3)).heap.size = wr.heap.size + 2 := by simp
  have hb : Below wr.heap.size wr ((wr.alloc (.cells #[.int .i64 (k : Int)] 3)).alloc (.cells #[.int .i64 (((k : Int) + 1) % 4)] 3)) := bAl (bAl (Below.refl _ _) _) _
  have r1 : RowIs ((wr.alloc (.cells #[.int .i64 (k : Int)] 3)).alloc (.cells #[.int .i64 (((k : Int) + 1) % 4)] 3)) wr.heap.size #[.int .i64 (k : Int)] 3 := (RowIs.new wr _ _).keep (bAl (Below.refl _ _) _)
  have r2 : RowIs ((wr.alloc (.cells #[.int .i64 (k : Int)] 3)).alloc (.cells #[.int .i64 (((k : Int) + 1) % 4)] 3)) (wr.heap.size + 1) #[.int .i64 (((k : Int) + 1) % 4)] 3 := by
    have := RowIs.new (wr.alloc (.cells #[.int .i64 (k : Int)] 3)) #[.int .i64 (((k : Int) + 1) % 4)] 3
    rwa [s1] at this
  generalize (wr.alloc (.cells #[.int .i64 (k : Int)] 3)).alloc (.cells #[.int .i64 (((k : Int) + 1) % 4)] 3) = W at *
  have e : (W.setCell ⟨z, k, none⟩ (.func (.func 134) #[] #[.pointer (some ⟨wr.heap.size, 0, none⟩), .pointer (some ⟨wr.heap.size + 1, 0, none⟩)])).heap.size = W.heap.size := by simp [World.setCell]
  rw [e]
  refine Rounds.but ?_ (Nat.le_refl _) ((But.refl z W).set _) (by omega)
  refine Rounds.set ((h.keepB hb).mono (by omega)) hk ⟨_, _, rfl, by omega, by omega, by omega, by omega, r1.at rfl, r2.at rfl⟩

set_option maxHeartbeats 1000000 in
theorem rounds_any (w : World) :
    Calls Tryz.prog 117 #[] w fun e w' => ∃ F : List Value, e = .returned (.agg F.toArray) ∧ Rounds w' w.heap.size w'.heap.size F 4 ∧ Below w.heap.size w w' := by
  have hsf := fun (a : Addr) (c : Array Value) (w : World) => run_store Tryz.prog w a (.func (.func 134) #[] c) .plain rfl
  go_enter Tryz.func117, Tryz.ntmps117
  go_wp2_with fail
  go_loopw [2, 3, 4] (fun _ _ i w' => ∃ (k : Nat) (F : List Value), k ≤ 4 ∧ i = .int .i64 k ∧ Hid (Rounds w' (w.heap.size + 1 + 1) w'.heap.size F k) ∧ Hid (RowIs w' (w.heap.size + 1) F.toArray 131) ∧ Hid (RowIs w' w.heap.size #[.nilFunc, .nilFunc, .nilFunc, .nilFunc] 131) ∧ Hid (Below w.heap.size w w')) (fun _ _ i _ => 4 - (intOf i).toNat)
  case atStart =>
    refine ⟨0, [.nilFunc, .nilFunc, .nilFunc, .nilFunc], by omega, rfl, hide ⟨rfl, fun j hj => absurd hj (Nat.not_lt_zero _)⟩, hide ?_, hide ?_, hide (bAl (bAl (Below.refl _ _) _) _)⟩
    · have := RowIs.new (w.alloc (.cells #[.nilFunc, .nilFunc, .nilFunc, .nilFunc] 131)) #[.nilFunc, .nilFunc, .nilFunc, .nilFunc] 131
      simpa using this
    · exact (RowIs.new w #[.nilFunc, .nilFunc, .nilFunc, .nilFunc] 131).keep (bAl (Below.refl _ _) _)
  case round =>
    obtain ⟨k, F, hk, rfl, hR, hr, hr0, hb⟩ := hrel
    by_cases hk4 : k < 4
    · have hF : F.length = 4 := (unhide hR).1
      have hz : w.heap.size + 1 < wr.heap.size := (unhide hr).lt
      have hr2 := hide ((unhide hr).keep (bAl (bAl (Below.refl wr.heap.size wr) (.cells #[.int .i64 (k : Int)] 3)) (.cells #[.int .i64 (((k : Int) + 1) % 4)] 3)))
      have c1 := (unhide hr2).at (o := k) (v := F[k]) (by simp)
      have fr := (unhide hr2).froz k
      generalize F[k] = D at c1
      have hst := hide (rounds_step (unhide hR) hk4 hz)
      go_wp2_with fail
      exact ⟨⟨k + 1, _, by omega, by go_num, hst, hide (by rw [← List.setIfInBounds_toArray]; exact (unhide hr2).set k _), hide (((unhide hr0).keep (bAl (bAl (Below.refl _ _) _) _)).setOther _ (by omega)), hide ((bAl (bAl (unhide hb) _) _).setCell (by show _ ≤ w.heap.size + 1; omega) _)⟩, by simp [intOf]; omega⟩
    · obtain rfl : k = 4 := by omega
      have hF : F.length = 4 := (unhide hR).1
      obtain ⟨f0, f1, f2, f3, rfl⟩ : ∃ f0 f1 f2 f3, F = [f0, f1, f2, f3] := by
        match F, hF with
        | [a, b, c, d], _ => exact ⟨a, b, c, d, rfl⟩
      obtain ⟨p0, q0, e0, _⟩ := (unhide hR).2 0 (by omega)
      obtain ⟨p1, q1, e1, _⟩ := (unhide hR).2 1 (by omega)
      obtain ⟨p2, q2, e2, _⟩ := (unhide hR).2 2 (by omega)
      obtain ⟨p3, q3, e3, _⟩ := (unhide hR).2 3 (by omega)
      simp only [List.getD_cons_zero, List.getD_cons_succ] at e0 e1 e2 e3
      subst e0 e1 e2 e3
      have c0 := (unhide hr).at (o := 0) rfl
      have c1 := (unhide hr).at (o := 1) rfl
      have c2 := (unhide hr).at (o := 2) rfl
      have c3 := (unhide hr).at (o := 3) rfl
      have d0 := (unhide hr0).at (o := 0) rfl
      have d1 := (unhide hr0).at (o := 1) rfl
      have d2 := (unhide hr0).at (o := 2) rfl
      have d3 := (unhide hr0).at (o := 3) rfl
      have g0 := (unhide hr0).froz 0
      have g1 := (unhide hr0).froz 1
      have g2 := (unhide hr0).froz 2
      have g3 := (unhide hr0).froz 3
      have hz : w.heap.size + 1 < wr.heap.size := (unhide hr).lt
      go_wp2_with fail
      have R4 := ((((unhide hr0).set 0 (.func (.func 134) #[] #[.pointer (some ⟨p0, 0, none⟩), .pointer (some ⟨q0, 0, none⟩)])).set 1 (.func (.func 134) #[] #[.pointer (some ⟨p1, 0, none⟩), .pointer (some ⟨q1, 0, none⟩)])).set 2 (.func (.func 134) #[] #[.pointer (some ⟨p2, 0, none⟩), .pointer (some ⟨q2, 0, none⟩)])).set 3 (.func (.func 134) #[] #[.pointer (some ⟨p3, 0, none⟩), .pointer (some ⟨q3, 0, none⟩)])
      have B4 := ((((But.refl w.heap.size wr).set (o := 0) (.func (.func 134) #[] #[.pointer (some ⟨p0, 0, none⟩), .pointer (some ⟨q0, 0, none⟩)])).set (o := 1) (.func (.func 134) #[] #[.pointer (some ⟨p1, 0, none⟩), .pointer (some ⟨q1, 0, none⟩)])).set (o := 2) (.func (.func 134) #[] #[.pointer (some ⟨p2, 0, none⟩), .pointer (some ⟨q2, 0, none⟩)])).set (o := 3) (.func (.func 134) #[] #[.pointer (some ⟨p3, 0, none⟩), .pointer (some ⟨q3, 0, none⟩)])
      have x0 := R4.at (o := 0) rfl
      have x1 := R4.at (o := 1) rfl
      have x2 := R4.at (o := 2) rfl
      have x3 := R4.at (o := 3) rfl
      have RR := (((unhide hR).but (Nat.le_refl _) B4 (by omega)).mono B4.size)
      exact bodyPost_ret (v := .agg #[.func (.func 134) #[] #[.pointer (some ⟨p0, 0, none⟩), .pointer (some ⟨q0, 0, none⟩)], .func (.func 134) #[] #[.pointer (some ⟨p1, 0, none⟩), .pointer (some ⟨q1, 0, none⟩)], .func (.func 134) #[] #[.pointer (some ⟨p2, 0, none⟩), .pointer (some ⟨q2, 0, none⟩)], .func (.func 134) #[] #[.pointer (some ⟨p3, 0, none⟩), .pointer (some ⟨q3, 0, none⟩)]])
        (by simp [results, Tryz.results117, go_sem, x0, x1, x2, x3]) rfl ⟨_, rfl, ⟨RR.1, fun j hj => by
          obtain ⟨p, q, e, lp, lq, r⟩ := RR.2 j hj
          exact ⟨p, q, e, by omega, by omega, r⟩⟩, (unhide hb).trans (B4.below (Nat.le_refl _) (by omega))⟩
end Go.Proofs.YtdflnjjomljgmaaGreatDoor.D
