/- FnRecovered: the law's whole walk. -/
import Derived.Test.YtjmpakpodhbbpaaKXs
import Derived.Test.YtjmpakpodhbbpaaKWq
import Derived.Test.YtjmpakpodhbbpaaKWo
namespace Go.Proofs.Ytjmpakpodhbbpaa.C
open Go.RowKit
set_option maxRecDepth 20000

theorem wf_i64 {n : Int} (h0 : -9223372036854775808 ≤ n) (h1 : n ≤ 9223372036854775807) : (Lit.int .i64 n).wf = true := by
  show (decide ((-9223372036854775808 : Int) ≤ n) && decide (n ≤ 9223372036854775807)) = true
  simp [h0, h1]
theorem drE_ok {y : RecoverEventT} (h : DrE y) : RecoverEventT.Ok y := by
  obtain ⟨h1, h2, h3, h4, h5⟩ := h
  exact ⟨wf_i64 (by omega) (by omega), wf_i64 (by omega) (by omega), h3⟩
/-- Where the way back stands. -/
def BkSt (x0 : RcT) (l : List RecoverEventT) (k : Nat) (v ask j : Int) : Prop :=
  (ask = -1 ∧ ∃ jn : Nat, j = (jn : Int) - 1 ∧ jn ≤ k ∧ 0 ≤ v ∧ v + jn ≤ k ∧ BackR x0 l k jn v) ∨
  (0 ≤ ask ∧ ask ≤ 1000 ∧ ((stR x0 l k).votes.length : Int) = v ∧ (stR x0 l k).ready = ask + x0.delay ∧ -1 ≤ j ∧ j ≤ k ∧ 0 ≤ v ∧ v ≤ k)
set_option maxHeartbeats 8000000 in
theorem recd_any (a : Option Addr) (len cap : Nat) (w : World) (hc : CodeAt w w.heap.size a len) :
    Calls Try.prog 3 #[.slice a len cap] w fun e w' => e = .returned (.bool true) ∧ Below w.heap.size w w' := by
  have hlm := hc.1
  unfold maxLen at hlm
  have qd := hide (drawR_any a len cap w hc)
  clear hc
  by_cases h1 : (1048576 : Int) < (len : Int)
  · clear qd
    go_enter Try.func3, Try.ntmps3
    go_wp2_with fail
    go_ret
    exact ⟨rfl, Below.refl _ _⟩
  go_enter Try.func3, Try.ntmps3
  go_wp2_with fail
  refine (unhide qd).mono ?_
  rintro e w1 ⟨⟨need, delay, v, hv, l, H, hl, hev, hdl, rfl, ho, ⟨hg, hn, rfl, hn10, hH, hHok⟩⟩, hb1⟩
  obtain ⟨va, vc, rfl, hsl⟩ := own_RecoverEvent ho
  have HSL := hide hsl
  have HH := hide hH
  have HHO := hide hHok
  have HEV := hide hev
  have HDL := hide hdl
  have B1 := hide hb1
  have OKS := hide (fun q (hq : q ∈ l) => drE_ok (hev q hq))
  have HHL := hide (show H.length ≤ maxLen by rw [← hH.1]; unfold maxLen; omega)
  clear qd ho hb1 hsl hH hHok hev hdl
  obtain ⟨ln, hln⟩ : ∃ n, l.length = n := ⟨_, rfl⟩
  have HLN := hide hln
  rw [hln] at hl HSL ⊢
  have hl9 := hide (show ln ≤ maxLen by unfold maxLen; omega)
  clear hln
  go_wp2_with fail
  refine (iRunRecovery_y need delay ⟨some ⟨hg, 0, none⟩, hn, hn⟩ H va ln vc l w1 (unhide HHL) (unhide HHO) (V.SqS.of (unhide HH)) (unhide hl9) (unhide HSL) (unhide OKS)).mono ?_
  rintro e w2 ⟨⟨v2, r2, rfl, t2, o2⟩, hb2⟩
  have HSL2 := hide ((unhide HSL).keep hb2)
  have HH2 := hide ((unhide HH).keep hb2)
  have O2 := hide o2
  have B2 := hide (bTr (unhide B1) hb2)
  clear o2 hb2 HSL B1 HH
  go_wp2_with fail
  refine (sRunRecovery_y need delay ⟨some ⟨hg, 0, none⟩, hn, hn⟩ H va ln vc l w2 (unhide HHL) (unhide HHO) (V.SqS.of (unhide HH2)) (unhide hl9) (unhide HSL2)).mono ?_
  rintro e w3 ⟨⟨v3, r3, rfl, t3, o3⟩, hb3⟩
  obtain rfl := t2.uniq t3
  have O2' := hide (own_blk (unhide O2) (fun g hg => hb3.block g ((unhide O2).lt g hg).2))
  have HSL3 := hide ((unhide HSL2).keep hb3)
  have B3 := hide (bTr (unhide B2) hb3)
  have qz := hide (zInts_same (unhide O2') o3 (by have := t2.len; omega))
  have T2 := hide t2
  clear o3 hb3 O2 HSL2 HH2 B2 t3 t2
  go_wp2_with fail
  refine (unhide qz).mono ?_
  rintro e w4 ⟨rfl, hb4⟩
  have HSL4 := hide ((unhide HSL3).keep hb4)
  have O4 := hide (own_blk (unhide O2') (fun g hg => hb4.block g ((unhide O2').lt g hg).2))
  have B4 := hide (bTr (unhide B3) hb4)
  clear hb4 O2' HSL3 B3 qz
  obtain ⟨ia, ic, rfl, hints⟩ := own_Int (unhide O4)
  have HI := hide hints
  obtain ⟨rn, hrn⟩ : ∃ n, r2.length = n := ⟨_, rfl⟩
  have RL := hide hrn
  have hrn9 : rn ≤ 1000 := by rw [← hrn]; exact (unhide T2).len
  -- what the outcomes are
  obtain ⟨x0, hx0⟩ : ∃ x : RcT, x = ⟨need, delay, H, 0, false, 0, [], none, 0, 0⟩ := ⟨_, rfl⟩
  have RES := hide (show r2 = [] ∨ r2 = runR x0 l by
    by_cases g : GoodR need delay H l.length
    · right; rw [hx0]; exact (unhide T2).yes g
    · left; exact (unhide T2).no g)
  have XU := hide (show x0.under = false ∧ x0.delay = delay ∧ x0.need = need by rw [hx0]; exact ⟨rfl, rfl, rfl⟩)
  clear O4 hints hx0 T2
  rw [hrn]
  clear hrn
  go_wp2_with fail
  go_loopw [37] (fun i w' => ∃ (k : Nat), k ≤ rn ∧ i = .int .i64 k ∧ Hid (Below w4.heap.size w4 w')) (fun i _ => rn - (intOf i).toNat)
  case atStart => exact ⟨0, Nat.zero_le _, rfl, hide (Below.refl _ _)⟩
  case round =>
    obtain ⟨k, hk, rfl, hb⟩ := hrel
    by_cases hlt : k < rn
    · have hne : r2 ≠ [] := fun e => by have := unhide RL; rw [e] at this; simp at this; omega
      have er := (unhide RES).resolve_left hne
      have rl : rn = ln := by rw [← unhide RL, er, runR_len, unhide HLN]
      obtain ⟨ib, rfl, iz, ir⟩ := (unhide HI).resolve_left hne
      obtain ⟨g, off, rfl, hrow⟩ := ((unhide HSL4).keep (unhide hb)).at (k := k) (by omega)
      have IZ := hide iz
      have HR := hide (show ∀ (j : Nat) (hj : j < l.length), wr.cell? ⟨ib, j, none⟩ = some (.int .i64 (rcFault (stR x0 l j) l[j].f0 l[j].f1 l[j].f2)) ∧ ib < wr.heap.size from fun j hj => by
        have hj2 : j < r2.length := by rw [unhide RL, rl, ← unhide HLN]; exact hj
        have e1 := runR_get l x0 j hj
        rw [← er, List.getElem?_eq_getElem hj2] at e1
        have e2 := ir j hj2
        rw [Option.some.inj e1] at e2
        exact ⟨cellB (unhide hb) (unhide IZ) e2, Nat.lt_of_lt_of_le (unhide IZ) (unhide hb).size⟩)
      have HW := hide (show ∀ (j : Nat) (hj : j < l.length), wr.cell? ⟨g, off + j * 3, none⟩ = some (.int .i64 l[j].f0) ∧ wr.cell? ⟨g, off + j * 3 + 1, none⟩ = some (.int .i64 l[j].f1) ∧ g < wr.heap.size from fun j hj => ⟨hrow.c0 j hj, hrow.c1 j hj, hrow.z⟩)
      have hk' : k < l.length := by rw [unhide HLN, ← rl]; exact hlt
      obtain ⟨d0, iz'⟩ := unhide HR k hk'
      obtain ⟨c0, c1, cz⟩ := unhide HW k hk'
      have DE := hide (unhide HEV _ (List.getElem_mem hk'))
      have l50 : ln ≤ 50 := hl
      have hk18 : k < 50 := by omega
      have hlt2 : k < ln := by omega
      clear hrow ir iz IZ er rl
      by_cases hf : rcFault (stR x0 l k) l[k].f0 l[k].f1 l[k].f2 = 0
      rotate_left
      · have hf2 : (rcFault (stR x0 l k) l[k].f0 l[k].f1 l[k].f2 != 0) = true := by simpa using hf
        generalize rcFault (stR x0 l k) l[k].f0 l[k].f1 l[k].f2 = F at *
        go_wp2_with fail
        exact ⟨⟨k + 1, by omega, by go_num, hb⟩, by simp [intOf]; omega⟩
      rw [hf] at d0
      by_cases h4 : l[k].f0 = 4
      rotate_left
      · have h42 : (l[k].f0 != 4) = true := by simpa using h4
        generalize l[k].f0 = F at *
        go_wp2_with fail
        exact ⟨⟨k + 1, by omega, by go_num, hb⟩, by simp [intOf]; omega⟩
      rw [h4] at c0 hf
      have TK := hide (take_ok hf)
      have ST := hide (show BkSt x0 l k 0 (-1) ((k : Int) - 1) from .inl ⟨rfl, k, rfl, Nat.le_refl _, by omega, by omega, BackR.start (unhide TK).1⟩)
      obtain ⟨WA, hWA⟩ : ∃ W : World, W = wr := ⟨_, rfl⟩
      subst hWA
      go_wp2_with fail
      go_loopw [9, 10, 11] (fun v ask j w' => ∃ V A J : Int, v = .int .i64 V ∧ ask = .int .i64 A ∧ j = .int .i64 J ∧ Hid (BkSt x0 l k V A J) ∧ w' = WA) (fun _ _ j _ => (intOf j + 1).toNat)
      case atStart => exact ⟨0, -1, _, rfl, rfl, rfl, ST, rfl⟩
      case round =>
        obtain ⟨V, A, J, rfl, rfl, rfl, hB, rfl⟩ := hrel
        clear ST
        rcases unhide hB with ⟨rfl, jn, rfl, hjk, v0, vj, bk⟩ | ⟨a0, a1, vv, rr, j1, j2, v0, v1⟩
        · have BK := hide bk
          clear bk hB
          by_cases hj0 : jn = 0
          · subst hj0
            exact ((unhide BK).none (unhide XU).1).elim
          obtain ⟨j', rfl⟩ : ∃ j', jn = j' + 1 := ⟨jn - 1, by omega⟩
          have ej : (((j' + 1 : Nat) : Int) - 1) = (j' : Int) := by omega
          rw [ej]
          have hj' : j' < l.length := by omega
          obtain ⟨e0, ez⟩ := unhide HR j' hj'
          obtain ⟨g0, g1, gz⟩ := unhide HW j' hj'
          have DJ := hide (unhide HEV _ (List.getElem_mem hj'))
          by_cases hfj : rcFault (stR x0 l j') l[j'].f0 l[j'].f1 l[j'].f2 = 0
          rotate_left
          · have hfj2 : (rcFault (stR x0 l j') l[j'].f0 l[j'].f1 l[j'].f2 != 0) = true := by simpa using hfj
            have NB := hide (show BkSt x0 l k V (-1) ((j' : Int) - 1) from .inl ⟨rfl, j', rfl, by omega, v0, by omega, (unhide BK).bad hj' hfj⟩)
            generalize rcFault (stR x0 l j') l[j'].f0 l[j'].f1 l[j'].f2 = F at *
            go_wp2_with fail
            exact ⟨⟨V, -1, _, rfl, rfl, rfl, NB, trivial⟩, by simp [intOf] <;> omega⟩
          rw [hfj] at e0
          by_cases k2 : l[j'].f0 = 2
          · have NB := hide (show BkSt x0 l k (V + 1) (-1) ((j' : Int) - 1) from .inl ⟨rfl, j', rfl, by omega, by omega, by omega, (unhide BK).vote hj' hfj k2⟩)
            rw [k2] at g0
            clear hfj
            go_wp2_with fail
            exact ⟨⟨V + 1, -1, _, rfl, rfl, rfl, NB, trivial⟩, by simp [intOf] <;> omega⟩
          by_cases k1 : l[j'].f0 = 1
          · obtain ⟨q1, q2, q3⟩ := (unhide BK).ask hj' hfj k1
            have q4 : l[j'].f1 ≤ 1000 := (unhide DJ).2.1
            have NB := hide (show BkSt x0 l k V l[j'].f1 ((j' : Int) - 1) from .inr ⟨q3, q4, q1, q2, by omega, by omega, v0, by omega⟩)
            rw [k1] at g0
            clear hfj k2 q1 q2
            generalize l[j'].f1 = F at *
            go_wp2_with fail
            exact ⟨⟨V, F, _, rfl, rfl, rfl, NB, trivial⟩, by simp [intOf] <;> omega⟩
          · exact ((unhide BK).other hj' hfj k1 k2).elim
        · have VV := hide vv
          have RR := hide rr
          clear vv rr hB
          have hneed : need ≤ V := by
            have t1 := (unhide TK).2.1
            rw [(stR_delay l x0 k (by omega)).2, (unhide XU).2.2, unhide VV] at t1
            exact t1
          have hready : A + delay ≤ l[k].f1 := by
            have t1 := (unhide TK).2.2
            rw [unhide RR, (unhide XU).2.1] at t1
            exact t1
          have d0' := (unhide HDL).1
          have d8' := (unhide HDL).2
          have f1000 : l[k].f1 ≤ 1000 := (unhide DE).2.1
          generalize l[k].f1 = F at *
          clear hf TK VV RR
          by_cases hJ0 : 0 ≤ J
          · go_wp2_with fail
            exact ⟨⟨k + 1, by omega, by go_num, hb⟩, by simp [intOf]; omega⟩
          · go_wp2_with fail
            exact ⟨⟨k + 1, by omega, by go_num, hb⟩, by simp [intOf]; omega⟩
    · go_wp2_with fail
      go_ret
      exact ⟨rfl, bTr (unhide B4) (unhide hb)⟩
end Go.Proofs.Ytjmpakpodhbbpaa.C
