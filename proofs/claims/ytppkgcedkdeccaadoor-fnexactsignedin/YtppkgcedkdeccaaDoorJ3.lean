/- DDigP, DDigS, DDigT, one behind the other. -/
import Derived.Test.YtppkgcedkdeccaaDoorJ2
import Derived.BigRegion
import Derived.Maps.AppendAt
/- The digest, as lists. -/
namespace Go.Proofs.YtppkgcedkdeccaaDoor.D

def mul4 (i : Nat) : Nat := [1103515245, 69069, 1664525, 22695477].getD i 0
theorem mul4_le (i : Nat) : mul4 i ≤ 1103515245 := by
  unfold mul4
  match i with
  | 0 => decide
  | 1 => decide
  | 2 => decide
  | 3 => decide
  | _ + 4 => simp
/-- One number is changed. -/
def step4 (a : List Nat) (x i : Nat) : List Nat := a.set i ((a.getD i 0 * mul4 i + x + 1 + a.getD ((i + 1) % 4) 0) % 2147483579)
def mixN (a : List Nat) (x : Nat) : Nat → List Nat
  | 0 => a
  | k + 1 => step4 (mixN a x k) x k
def mix (a : List Nat) (x : Nat) : List Nat := mixN a x 4
/-- Four numbers below the prime. -/
def Four (a : List Nat) : Prop := a.length = 4 ∧ ∀ i, a.getD i 0 < 2147483579
theorem Four.step {a : List Nat} (h : Four a) (x i : Nat) : Four (step4 a x i) := by
  refine ⟨by simp [step4, h.1], fun j => ?_⟩
  unfold step4
  rw [List.getD_eq_getElem?_getD]
  by_cases e : i = j
  · subst e
    by_cases hi : i < a.length
    · rw [List.getElem?_set_self hi]; exact Nat.mod_lt _ (by decide)
    · rw [List.getElem?_eq_none (by simp; omega)]; decide
  · rw [List.getElem?_set_ne e, ← List.getD_eq_getElem?_getD]; exact h.2 j
theorem Four.mixN {a : List Nat} (h : Four a) (x k : Nat) : Four (mixN a x k) := by
  induction k with
  | zero => exact h
  | succ k ih => exact ih.step x k
def takes (a : List Nat) (l : List UInt8) : List Nat := l.foldl (fun a c => mix a c.toNat) a
theorem Four.takes {a : List Nat} (h : Four a) (l : List UInt8) : Four (takes a l) := by
  unfold Go.Proofs.YtppkgcedkdeccaaDoor.D.takes
  induction l generalizing a with
  | nil => exact h
  | cons c l ih => exact ih (h.mixN c.toNat 4)
theorem takes_snoc (a : List Nat) (l : List UInt8) (c : UInt8) : takes a (l ++ [c]) = mix (takes a l) c.toNat := by simp [takes]
theorem takes_app (a : List Nat) (l m : List UInt8) : takes a (l ++ m) = takes (takes a l) m := by simp [takes]
theorem four0 : Four [11, 22, 33, 44] := by
  refine ⟨rfl, fun i => ?_⟩
  match i with
  | 0 => decide
  | 1 => decide
  | 2 => decide
  | 3 => decide
  | _ + 4 => simp
/-- A number as bytes. -/
def byte4 (n i : Nat) : UInt8 := UInt8.ofNat (n / 256 ^ i % 256)
theorem byte4_toNat (n i : Nat) : (byte4 n i).toNat = n / 256 ^ i % 256 := by
  unfold byte4; rw [UInt8.toNat_ofNat']; omega
def bytes4 (n : Nat) : List UInt8 := [byte4 n 0, byte4 n 1, byte4 n 2, byte4 n 3]
/-- The four numbers of a digest. -/
def digN (l : List UInt8) : List Nat := takes (takes (takes [11, 22, 33, 44] l) (bytes4 l.length)) (List.replicate 8 0)
theorem digN_four (l : List UInt8) : Four (digN l) := ((four0.takes _).takes _).takes _
def tell (a : List Nat) : List UInt8 := a.flatMap bytes4
theorem tell_snoc (a : List Nat) (n : Nat) : tell (a ++ [n]) = tell a ++ bytes4 n := by simp [tell]
theorem tell_len (a : List Nat) : (tell a).length = 4 * a.length := by
  induction a with
  | nil => rfl
  | cons x xs ih => show (bytes4 x ++ tell xs).length = _; rw [List.length_append, ih]; simp [bytes4]; omega
def dig (l : List UInt8) : List UInt8 := tell (digN l)
theorem dig_len (l : List UInt8) : (dig l).length = 16 := by unfold dig; rw [tell_len, (digN_four l).1]
end Go.Proofs.YtppkgcedkdeccaaDoor.D
/- spec.l2Bytes, l2Mix, l2Digest, Digest. -/
namespace Go.Proofs.YtppkgcedkdeccaaDoor.D
open Go.RowKit

def natV (n : Nat) : Value := .int .i64 (n : Int)
def intsOf (a : List Nat) : Array Value := (a.map natV).toArray
theorem intsOf_get (a : List Nat) (i : Nat) (h : i < a.length) : (intsOf a)[i]? = some (natV (a.getD i 0)) := by
  simp [intsOf, h]
theorem intsOf_set (a : List Nat) (k n : Nat) : (intsOf a).setIfInBounds k (natV n) = intsOf (a.set k n) := by
  apply Array.toList_inj.1
  simp [intsOf]

theorem RowIs.setOther {w : World} {b : Nat} {C : Array Value} {T : TypeId} (h : RowIs w b C T) {z o : Nat} (v : Value) (hn : b ≠ z) : RowIs (w.setCell ⟨z, o, none⟩ v) b C T := by
  unfold RowIs at *
  rw [heap_setCell_other w ⟨z, o, none⟩ b v hn]; exact h
theorem row_news {w : World} {b : Nat} {l : List UInt8} (h : RowIs w b (cellsOf l) 5) : ∀ j u, (l.map byteV)[j]? = some u → w.cell? ((⟨b, 0, none⟩ : Addr).add j) = some u := by
  intro j u hj
  have e : (⟨b, 0, none⟩ : Addr).add j = ⟨b, j, none⟩ := by simp [Addr.add]; exact Eq.symm
  rw [e, h.cell]
  simpa [cellsOf] using hj
theorem one_cell {l : List UInt8} : ∀ u ∈ l.map byteV, u.oneCell' = true := by
  intro u hu
  obtain ⟨c, _, rfl⟩ := List.mem_map.1 hu
  rfl

set_option maxHeartbeats 4000000 in
theorem l2Mix_any (b cap x : Nat) (a : List Nat) (w : World) (hx : x ≤ 255) (ha : Four a) (hr : RowIs w b (intsOf a) 3) :
    Calls Tryd.prog 85 #[.slice (some ⟨b, 0, none⟩) 4 cap, .int .i64 x] w fun e w' => e = .returned (.tuple #[]) ∧ RowIs w' b (intsOf (mix a x)) 3 ∧ But b w w' := by
  have HR := hide hr
  have HA := hide ha
  have hlt0 := hr.lt
  clear hr ha
  go_enter Tryd.func85, Tryd.ntmps85
  go_wp2_with fail
  have HW := hide (show RowIs (w.alloc (.cells #[.int .i64 1103515245, .int .i64 69069, .int .i64 1664525, .int .i64 22695477] 3)) w.heap.size (intsOf [1103515245, 69069, 1664525, 22695477]) 3 from RowIs.new _ _ _)
  have HB := hide (show But b w (w.alloc (.cells #[.int .i64 1103515245, .int .i64 69069, .int .i64 1664525, .int .i64 22695477] 3)) from (But.refl b w).al _)
  go_loopw [5] (fun i w' => ∃ k : Nat, k ≤ 4 ∧ i = .int .i64 k ∧ Hid (RowIs w' b (intsOf (mixN a x k)) 3) ∧ Hid (RowIs w' w.heap.size (intsOf [1103515245, 69069, 1664525, 22695477]) 3) ∧ Hid (But b w w')) (fun i _ => 4 - (intOf i).toNat)
  case atStart => exact ⟨0, by omega, rfl, hide ((unhide HR).keep (bAl (Below.refl _ _) _)), HW, HB⟩
  case round =>
    obtain ⟨k, hk, rfl, hr, hm, hb⟩ := hrel
    by_cases hk4 : k < 4
    · have hF := (unhide HA).mixN x k
      have hq : k < (mixN a x k).length := by rw [hF.1]; exact hk4
      have hq2 : (k + 1) % 4 < (mixN a x k).length := by rw [hF.1]; omega
      have c0 := (unhide hr).at (intsOf_get _ k hq)
      have c1 := (unhide hr).at (intsOf_get _ _ hq2)
      have cm : wr.cell? ⟨w.heap.size, k, none⟩ = some (natV (mul4 k)) := (unhide hm).at (intsOf_get _ k hk4)
      have fr := (unhide hr).froz k
      have hA := hF.2 k
      have hB := hF.2 ((k + 1) % 4)
      have hM := mul4_le k
      have hst := hide (show intsOf (mixN a x (k + 1)) = (intsOf (mixN a x k)).setIfInBounds k (natV (((mixN a x k).getD k 0 * mul4 k + x + 1 + (mixN a x k).getD ((k + 1) % 4) 0) % 2147483579)) by rw [intsOf_set]; rfl)
      clear hF hq hq2
      generalize (mixN a x k).getD k 0 = A at c0 hA hst
      generalize (mixN a x k).getD ((k + 1) % 4) 0 = B at c1 hB hst
      generalize mul4 k = M at cm hM hst
      unfold natV at c0 c1 cm
      have hp := mul_ok hA (Nat.lt_of_le_of_lt hM (show 1103515245 < 2147483579 by decide)) (by decide)
      go_wp2_with fail
      go_region
      all_goals go_wp2_with fail
      have ev : natV ((A * M + x + 1 + B) % 2147483579) = .int .i64 (((A : Int) * M + x + 1 + B) % 2147483579) := by simp [natV]
      rw [ev] at hst
      exact ⟨⟨k + 1, by omega, by go_num, hide (by rw [unhide hst]; exact (unhide hr).set k _), hide ((unhide hm).setOther _ (by omega)), hide (((unhide hb).set _).dr 1)⟩, by simp [intOf]; omega⟩
    · have e : k = 4 := by omega
      subst e
      go_wp2_with fail
      go_end0
      exact ⟨rfl, unhide hr, unhide hb⟩

theorem pow256 (k : Nat) : 256 ^ (k + 1) = 256 ^ k * 256 := Nat.pow_succ ..
theorem bytes4_take (n k : Nat) (hk : k < 4) : (bytes4 n)[k]'(by simp [bytes4]; omega) = byte4 n k := by
  match k, hk with
  | 0, _ => rfl
  | 1, _ => rfl
  | 2, _ => rfl
  | 3, _ => rfl

set_option maxHeartbeats 1000000 in
theorem l2Bytes_any (n : Nat) (w : World) (hn : n < 4611686018427387904) :
    Calls Tryd.prog 86 #[.int .i64 n] w fun e w' => e = .returned (.slice (some ⟨w.heap.size, 0, none⟩) 4 4) ∧ RowIs w' w.heap.size (cellsOf (bytes4 n)) 5 ∧ Below w.heap.size w w' := by
  obtain ⟨w1, hrun, hb1, hr1⟩ := make_bytes 4 w (by decide)
  have hrun' : (Instr.makeSlice 22 (.int .i64 4) (.int .i64 4)).run Tryd.prog w = .ok (.slice (some ⟨w.heap.size, 0, none⟩) 4 4) w1 := hrun
  have HB1 := hide hb1
  have HR1 := hide hr1
  clear hrun hb1 hr1
  go_enter Tryd.func86, Tryd.ntmps86
  go_wp2_with fail
  clear hrun'
  go_loopw [0, 4, 8] (fun m _ i w' => ∃ (k : Nat) (q : Nat) (C : List UInt8), k ≤ 4 ∧ i = .int .i64 k ∧ m = .int .i64 q ∧ q < 4611686018427387904 ∧ Hid (q = n / 256 ^ k) ∧ Hid (Below w.heap.size w w') ∧ Hid (RowIs w' w.heap.size (cellsOf C) 5) ∧ Hid (C.length = (bytes4 n).length) ∧ Hid (C.take k = (bytes4 n).take k)) (fun _ _ i _ => 4 - (intOf i).toNat)
  case atStart => exact ⟨0, n, _, by omega, rfl, rfl, hn, hide (by simp), HB1, HR1, hide (by simp [bytes4]), hide (by simp)⟩
  case round =>
    obtain ⟨k, q, C, hk, rfl, rfl, hq, hQ, hb, hr, hC, hF⟩ := hrel
    by_cases hlt : k < 4
    · have hkl : k < (bytes4 n).length := by simp [bytes4]; omega
      have hck : k < C.length := by rw [unhide hC]; exact hkl
      have fr := (unhide hr).froz k
      have c1 := (unhide hr).at (cellsOf_get C k hck)
      have hz : w.heap.size < wr.heap.size := (unhide hr).lt
      have hF' := hide (set_take C (bytes4 n) k hkl (unhide hC) (unhide hF))
      rw [bytes4_take n k hlt] at hF'
      have hv : (q : Int) % 256 = ((byte4 n k).toNat : Int) := by rw [byte4_toNat, ← unhide hQ]; omega
      have hQ' := hide (show q / 256 = n / 256 ^ (k + 1) by rw [pow256, ← Nat.div_div_eq_div_mul, unhide hQ])
      generalize byte4 n k = B at hF' hv
      have hB := B.toNat_lt
      generalize C[k] = D at c1
      unfold byteV at c1
      go_wp2_with fail
      exact ⟨⟨k + 1, q / 256, C.set k B, by omega, by go_num, by simp, by omega, hQ', hide ((unhide hb).setCell (Nat.le_refl _) _), hide (by rw [← cellsOf_set]; exact (unhide hr).set k _), hide (by rw [List.length_set]; exact unhide hC), hF'⟩, by simp [intOf]; omega⟩
    · have e2 : C = bytes4 n := by
        have := unhide hF
        rwa [List.take_of_length_le (by rw [unhide hC]; simp [bytes4]; omega), List.take_of_length_le (by simp [bytes4]; omega)] at this
      go_wp2_with fail
      go_ret
      exact ⟨rfl, by rw [← e2]; exact unhide hr, unhide hb⟩

end Go.Proofs.YtppkgcedkdeccaaDoor.D
/- spec.l2Digest, Digest. -/
namespace Go.Proofs.YtppkgcedkdeccaaDoor.D
set_option maxRecDepth 20000
open Go.RowKit

theorem takes_take (a : List Nat) (l : List UInt8) (k : Nat) (h : k < l.length) : takes a (l.take (k + 1)) = mix (takes a (l.take k)) (l[k]).toNat := by
  rw [List.take_succ_eq_append_getElem h, takes_snoc]
theorem tell_take (a : List Nat) (k : Nat) (h : k < a.length) : tell (a.take (k + 1)) = tell (a.take k) ++ bytes4 (a.getD k 0) := by
  rw [List.take_succ_eq_append_getElem h, tell_snoc, List.getD_eq_getElem?_getD, List.getElem?_eq_getElem h]; rfl
theorem rep_take (a : List Nat) (k : Nat) : takes a (List.replicate (k + 1) 0) = mix (takes a (List.replicate k 0)) 0 := by
  rw [List.replicate_succ', takes_snoc]; rfl

set_option maxHeartbeats 1000000 in
theorem l2Digest_any (ad : Option Addr) (len cap : Nat) (l : List UInt8) (w : World) (hl : len ≤ 1048576) (hs : SlB w w.heap.size ad len l) :
    Calls Tryd.prog 80 #[.slice ad len cap] w fun e w' => ∃ v D, Hid (D = dig l) ∧ e = .returned v ∧ w'.ownsRow w.heap.size 5 1 v D.length (D.map byteV) ∧ Below w.heap.size w w' := by
  obtain ⟨i0, hi, hz0, hz1, hz2⟩ := info_parts info_u8
  have HS := hide hs
  have hll := hide hs.1
  clear hs
  obtain ⟨I, hI⟩ : ∃ I : List Nat, I = [11, 22, 33, 44] := ⟨_, rfl⟩
  have FI := hide (show Four I by rw [hI]; exact four0)
  have hI2 := hide (show intsOf I = #[.int .i64 11, .int .i64 22, .int .i64 33, .int .i64 44] by rw [hI]; rfl)
  have HI := hide hI
  clear hI
  go_enter Tryd.func80, Tryd.ntmps80
  go_wp2_with fail
  have HW := hide (show RowIs (w.alloc (.cells #[.int .i64 11, .int .i64 22, .int .i64 33, .int .i64 44] 3)) w.heap.size (intsOf I) 3 by rw [unhide hI2]; exact RowIs.new _ _ _)
  have HB := hide (show Below w.heap.size w (w.alloc (.cells #[.int .i64 11, .int .i64 22, .int .i64 33, .int .i64 44] 3)) from bAl (Below.refl _ _) _)
  go_loopw [5, 15] (fun _ i w' => ∃ (k : Nat) (A : List Nat), k ≤ len ∧ i = .int .i64 k ∧ Hid (A = takes I (l.take k)) ∧ Hid (Four A) ∧ Hid (RowIs w' w.heap.size (intsOf A) 3) ∧ Hid (Below w.heap.size w w')) (fun _ i _ => len - (intOf i).toNat)
  case atStart => exact ⟨0, I, by omega, rfl, hide (by simp [takes]), FI, HW, HB⟩
  case round =>
    obtain ⟨k, A, hk, rfl, hA, hF, hr, hb⟩ := hrel
    by_cases hlt : k < len
    · obtain ⟨b, off, rfl, _, _, hrow⟩ := ((unhide HS).keep (unhide hb)).at hlt
      have hkl : k < l.length := by rw [← unhide hll]; exact hlt
      have c0 := hrow k hkl
      have hst := hide (takes_take I l k hkl)
      rw [← unhide hA] at hst
      clear hrow
      generalize l[k] = c at c0 hst
      have hu := c.toNat_lt
      unfold byteV at c0
      go_wp2_with fail
      refine (l2Mix_any w.heap.size _ c.toNat A _ (by omega) (unhide hF) (unhide hr)).mono ?_
      rintro e w2 ⟨rfl, hr2, hb2⟩
      have B2 := hide ((unhide hb).trans (hb2.below (Nat.le_refl _) (unhide hb).size))
      have R2 := hide hr2
      have F2 := hide ((unhide hF).mixN c.toNat 4)
      clear hr2 hb2
      go_wp2_with fail
      exact ⟨⟨k + 1, mix A c.toNat, by omega, by go_num, hide (unhide hst).symm, F2, R2, B2⟩, by simp [intOf]; omega⟩
    · have HA1 := hide (show A = takes I l by have := unhide hA; rwa [List.take_of_length_le (by rw [← unhide hll]; omega)] at this)
      clear hA
      go_wp2_with fail
      refine (l2Bytes_any len _ (by omega)).mono ?_
      rintro e w2 ⟨rfl, hr2, hb2⟩
      obtain ⟨Bs, hBs⟩ : ∃ Bs, bytes4 len = Bs := ⟨_, rfl⟩
      have hB4 : Bs.length = 4 := by rw [← hBs]; rfl
      rw [hBs] at hr2
      have HBs := hide hBs
      have R2 := hide hr2
      have A2 := hide ((unhide hr).keep hb2)
      have B2 := hide (bTr (unhide hb) hb2)
      have z2 := (unhide hr).lt
      obtain ⟨g2, hg2⟩ : ∃ g2, wr.heap.size = g2 := ⟨_, rfl⟩
      rw [hg2] at R2 z2 ⊢
      clear hr2 hb2 hBs hr hb
      go_wp2_with fail
      go_loopw [7, 28] (fun _ i w' => ∃ (k : Nat) (C : List Nat), k ≤ 4 ∧ i = .int .i64 k ∧ Hid (C = takes A (Bs.take k)) ∧ Hid (Four C) ∧ Hid (RowIs w' w.heap.size (intsOf C) 3) ∧ Hid (RowIs w' g2 (cellsOf Bs) 5) ∧ Hid (Below w.heap.size w w')) (fun _ i _ => 4 - (intOf i).toNat)
      case atStart => exact ⟨0, A, by omega, rfl, hide (by simp [takes]), hF, A2, R2, B2⟩
      case round =>
        obtain ⟨k2, C, hk2, rfl, hC, hFC, hr3, hr4, hb3⟩ := hrel
        by_cases hlt2 : k2 < 4
        · have hkl : k2 < Bs.length := by omega
          have c0 := (unhide hr4).at (cellsOf_get _ k2 hkl)
          have hst := hide (takes_take A Bs k2 hkl)
          rw [← unhide hC] at hst
          generalize Bs[k2] = c at c0 hst
          have hu := c.toNat_lt
          unfold byteV at c0
          go_wp2_with fail
          refine (l2Mix_any w.heap.size _ c.toNat C _ (by omega) (unhide hFC) (unhide hr3)).mono ?_
          rintro e w5 ⟨rfl, hr5, hb5⟩
          have B5 := hide ((unhide hb3).trans (hb5.below (Nat.le_refl _) (unhide hb3).size))
          have R5 := hide hr5
          have R4 := hide (hb5.row (unhide hr4) (by omega))
          have F2 := hide ((unhide hFC).mixN c.toNat 4)
          clear hr5 hb5
          go_wp2_with fail
          exact ⟨⟨k2 + 1, mix C c.toNat, by omega, by go_num, hide (unhide hst).symm, F2, R5, R4, B5⟩, by simp [intOf]; omega⟩
        · have HC1 := hide (show C = takes A Bs by have := unhide hC; rwa [List.take_of_length_le (by omega)] at this)
          clear hC hr4
          go_wp2_with fail
          go_loopw [8] (fun i w' => ∃ (k : Nat) (D : List Nat), k ≤ 8 ∧ i = .int .i64 k ∧ Hid (D = takes C (List.replicate k 0)) ∧ Hid (Four D) ∧ Hid (RowIs w' w.heap.size (intsOf D) 3) ∧ Hid (Below w.heap.size w w')) (fun i _ => 8 - (intOf i).toNat)
          case atStart => exact ⟨0, C, by omega, rfl, hide (by simp [takes]), hFC, hr3, hb3⟩
          case round =>
            obtain ⟨k3, D, hk3, rfl, hD, hFD, hr6, hb6⟩ := hrel
            by_cases hlt3 : k3 < 8
            · have hst := hide (rep_take C k3)
              rw [← unhide hD] at hst
              go_wp2_with fail
              refine (l2Mix_any w.heap.size _ 0 D _ (by omega) (unhide hFD) (unhide hr6)).mono ?_
              rintro e w5 ⟨rfl, hr5, hb5⟩
              have B5 := hide ((unhide hb6).trans (hb5.below (Nat.le_refl _) (unhide hb6).size))
              have R5 := hide hr5
              have F2 := hide ((unhide hFD).mixN 0 4)
              clear hr5 hb5
              go_wp2_with fail
              exact ⟨⟨k3 + 1, mix D 0, by omega, by go_num, hide (unhide hst).symm, F2, R5, B5⟩, by simp [intOf]; omega⟩
            · have HD1 := hide (show tell D = dig l by
                have e8 : k3 = 8 := by omega
                unfold dig digN
                rw [unhide hD, unhide HC1, unhide HA1, ← unhide HBs, unhide HI, e8, unhide hll])
              have zb := (unhide hb6).size
              have zr := (unhide hr6).lt
              have hD4 : D.length = 4 := (unhide hFD).1
              clear hD
              go_wp2_with fail
              go_loopw [9, 11, 45] (fun v _ i w' => ∃ (k : Nat) (T : List UInt8), k ≤ 4 ∧ i = .int .i64 k ∧ T.length = 4 * k ∧ Hid (T = tell (D.take k)) ∧ Hid (RowIs w' w.heap.size (intsOf D) 3) ∧ Hid (w'.ownsRow (w.heap.size + 1) 5 1 v T.length (T.map byteV)) ∧ Hid (Below w.heap.size w w')) (fun _ _ i _ => 4 - (intOf i).toNat)
              case atStart => exact ⟨0, [], by omega, rfl, rfl, hide rfl, hr6, hide (World.ownsRow_nil _ _ _ _), hb6⟩
              case round =>
                obtain ⟨k4, T, hk4, rfl, hTl, hT, hr7, ho7, hb7⟩ := hrel
                by_cases hlt4 : k4 < 4
                · have hkl : k4 < D.length := by omega
                  have c0 := (unhide hr7).at (intsOf_get _ k4 hkl)
                  have hst := hide (tell_take D k4 hkl)
                  rw [← unhide hT] at hst
                  have hN := (unhide hFD).2 k4
                  generalize D.getD k4 0 = N at c0 hst hN
                  unfold natV at c0
                  go_wp2_with fail
                  refine (l2Bytes_any N _ (by omega)).mono ?_
                  rintro e w8 ⟨rfl, hr8, hb8⟩
                  obtain ⟨Ns, hNs⟩ : ∃ Ns, bytes4 N = Ns := ⟨_, rfl⟩
                  have hN4 : Ns.length = 4 := by rw [← hNs]; rfl
                  rw [hNs] at hr8 hst
                  have R8 := hide hr8
                  have A8 := hide ((unhide hr7).keep hb8)
                  have O8 := hide (own_keep (unhide ho7) hb8)
                  have B8 := hide (bTr (unhide hb7) hb8)
                  have z8 := hr8.lt
                  have zz := (unhide A8).lt
                  clear hr8 hb8 hNs
                  go_wp2_with (at_builtin; refine wpList_append_own _ rfl _ _ 22 rfl (w.heap.size + 1) 5 i0 (.int .u8 0) 1 1 Tryd.underlying22 hi hz0 hz1 hz2 rfl (by decide) _ _ _ rfl (unhide O8) ⟨_, 0, none⟩ _ _ (Ns.map byteV) rfl (by simp; omega) (row_news (unhide R8)) one_cell (by unfold maxLen; omega) (by omega) (by omega) ?_; intro v' w9 hown9 hgrow9 _)
                  have G9 := (Below.refl (w.heap.size + 1) w8).grown hgrow9 (by omega) (fun j hj => ((unhide O8).lt j hj).1)
                  exact ⟨⟨k4 + 1, T ++ Ns, by omega, by go_num, by rw [List.length_append]; omega, hide (unhide hst).symm, hide ((unhide A8).keepB G9 (by omega)), hide (by rw [List.length_append, List.map_append, hN4]; exact hown9), hide ((unhide B8).trans (G9.mono (by omega)))⟩, by simp [intOf]; omega⟩
                · have e : T = dig l := by have := unhide hT; rw [List.take_of_length_le (by omega)] at this; rw [this, unhide HD1]
                  have E := hide e
                  clear e
                  go_wp2_with fail
                  go_ret
                  exact ⟨_, T, E, rfl, ⟨(unhide ho7).1, (unhide ho7).2.imp_right fun ⟨g, cp, cur, h1, h2, h3⟩ => ⟨g, cp, cur, h1, by omega, h3⟩⟩, unhide hb7⟩
end Go.Proofs.YtppkgcedkdeccaaDoor.D
