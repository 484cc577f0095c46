/- WCmpS, RTp, one behind the other. -/
import Derived.Test.YtdflnjjomljgmaaGreatDoorJ18
import Derived.Test.YtdflnjjomljgmaaGreatDoorJ8
import Derived.Deep.RegionHeld3
import Derived.Deep.DeepCutAuto
import Derived.Test.YtdflnjjomljgmaaGreatDoorJ34
import Derived.Test.YtdflnjjomljgmaaGreatDoorJ19
import Derived.Test.YtdflnjjomljgmaaGreatDoorJ35
/- WCmpS, ported from seat 1a. -/
namespace Go.Proofs.YtdflnjjomljgmaaGreatDoor.V
open Go.RowKit

set_option maxHeartbeats 1000000 in
theorem sCompare_any (x n : Int) (t y : ByteArray) (x' n' : Int) (t' y' : ByteArray) (w : World) (h9 : n ≤ 9223372036854775807) (ht : t.size ≤ maxLen) (hy : y.size ≤ maxLen)
    (h9' : n' ≤ 9223372036854775807) (ht' : t'.size ≤ maxLen) (hy' : y'.size ≤ maxLen) :
    Calls Tryz.prog 46 #[.agg #[.int .i64 x, .int .i64 n, .string t, .string y], .agg #[.int .i64 x', .int .i64 n', .string t', .string y']] w
      fun e w' => e = .returned (.int .i64 (cmpG x n t y x' n' t' y')) ∧ Below w.heap.size w w' := by
  have hA := hide (fun w => sGoodAtom_any x n t y w h9 ht hy)
  have hB := hide (fun w => sGoodAtom_any x' n' t' y' w h9' ht' hy')
  have hC := hide (fun w => l1Cmp_any x n t y x' n' t' y' w ht hy)
  unfold cmpG
  generalize goodAtom x n t y = ga at hA ⊢
  generalize goodAtom x' n' t' y' = gb at hB ⊢
  generalize cmpA x n t y x' n' t' y' = c at hC ⊢
  clear h9 ht hy h9' ht' hy'
  cases ga
  · rw [if_neg (by simp)]
    go_enter Tryz.func46, Tryz.ntmps46
    go_wp2_with fail
    refine (unhide hA _).mono ?_
    rintro e w1 ⟨rfl, hb1⟩
    go_wp2_with fail
    go_ret
    exact ⟨rfl, bTr (bAl (bAl (Below.refl _ _) _) _) hb1⟩
  cases gb
  · rw [if_neg (by simp)]
    go_enter Tryz.func46, Tryz.ntmps46
    go_wp2_with fail
    refine (unhide hA _).mono ?_
    rintro e w1 ⟨rfl, hb1⟩
    obtain ⟨d0, d1, d2, d3, _⟩ := (AtomAt.new1 w _ _ _ _ _ _).keep hb1
    go_wp2_with fail
    refine (unhide hB _).mono ?_
    rintro e w2 ⟨rfl, hb2⟩
    go_wp2_with fail
    go_ret
    exact ⟨rfl, bTr (bTr (bAl (bAl (Below.refl _ _) _) _) hb1) hb2⟩
  rw [if_pos (by simp)]
  go_enter Tryz.func46, Tryz.ntmps46
  go_wp2_with fail
  refine (unhide hA _).mono ?_
  rintro e w1 ⟨rfl, hb1⟩
  have qa := ((AtomAt.new w _ _ _ _ _).more _).keep hb1
  have qb := (AtomAt.new1 w _ _ _ _ _ _).keep hb1
  obtain ⟨d0, d1, d2, d3, _⟩ := hide qb
  go_wp2_with fail
  refine (unhide hB _).mono ?_
  rintro e w2 ⟨rfl, hb2⟩
  clear d0 d1 d2 d3
  obtain ⟨c0, c1, c2, c3, _⟩ := qa.keep hb2
  obtain ⟨d0, d1, d2, d3, _⟩ := qb.keep hb2
  go_wp2_with fail
  refine (unhide hC _).mono ?_
  rintro e w3 ⟨rfl, hb3⟩
  go_wp2_with fail
  go_ret
  exact ⟨rfl, bTr (bTr (bTr (bAl (bAl (Below.refl _ _) _) _) hb1) hb2) hb3⟩

end Go.Proofs.YtdflnjjomljgmaaGreatDoor.V
/- What a term says of what is given: pure; spec.l6Field. -/
namespace Go.Proofs.YtdflnjjomljgmaaGreatDoor.V
open Go.RowKit

def zA : AtomT := ⟨0, 0, empB, empB⟩
theorem zA_ok : zA.Ok := ⟨by decide, by decide, by unfold maxLen; decide, by unfold maxLen; decide⟩
/-- What a record has under a name. -/
def fldA : List ByteArray → List AtomT → ByteArray → Option AtomT
  | n :: ns, a :: xs, s => if n = s then some a else fldA ns xs s
  | _, _, _ => none
theorem fldA_at {ns : List ByteArray} {xs : List AtomT} {s : ByteArray} {k : Nat} (hk : k < ns.length) (hk' : k < xs.length) (h : ∀ i (hi : i < ns.length), i < k → ns[i] ≠ s) (e : ns[k] = s) : fldA ns xs s = some xs[k] := by
  induction ns generalizing xs k with
  | nil => simp at hk
  | cons p r ih =>
    cases xs with
    | nil => simp at hk'
    | cons a xs =>
      cases k with
      | zero => simp at e; simp [fldA, e]
      | succ k =>
        have h0 : p ≠ s := h 0 (by simp) (by omega)
        rw [fldA, if_neg h0]
        exact ih (by simpa using hk) (by simpa using hk') (fun i hi hik => h (i + 1) (by simpa using hi) (by omega)) (by simpa using e)
theorem fldA_none {ns : List ByteArray} {xs : List AtomT} {s : ByteArray} (h : ∀ i (hi : i < ns.length), ns[i] ≠ s) : fldA ns xs s = none := by
  induction ns generalizing xs with
  | nil => simp [fldA]
  | cons p r ih =>
    cases xs with
    | nil => simp [fldA]
    | cons a xs =>
      have h0 : p ≠ s := h 0 (by simp)
      rw [fldA, if_neg h0]
      exact ih (fun i hi => h (i + 1) (by simpa using hi))
theorem fldA_mem {ns : List ByteArray} {xs : List AtomT} {s : ByteArray} {a : AtomT} (h : fldA ns xs s = some a) : a ∈ xs := by
  induction ns generalizing xs with
  | nil => simp [fldA] at h
  | cons p r ih =>
    cases xs with
    | nil => simp [fldA] at h
    | cons b xs =>
      rw [fldA] at h
      split at h
      · simp at h; subst h; simp
      · exact List.mem_cons_of_mem _ (ih h)

abbrev vAgg (v : ValT) (a1 : Option Addr) (l1 c1 : Nat) (a2 : Option Addr) (l2 c2 : Nat) : Value := .agg #[.int .i64 v.k, .int .i64 v.a.x, .int .i64 v.a.n, .string v.a.t, .string v.a.y, .slice a1 l1 c1, .slice a2 l2 c2]

set_option maxRecDepth 20000 in
set_option maxHeartbeats 1000000 in
theorem l6Field_any (v : ValT) (a1 a2 : Option Addr) (l1 c1 l2 c2 : Nat) (s : ByteArray) (w : World) (hl : l2 ≤ 1000) (he : v.names.length = v.items.length) (hs1 : SlA w a1 l1 v.items) (hs2 : SlS w a2 l2 v.names) :
    Calls Tryz.prog 70 #[vAgg v a1 l1 c1 a2 l2 c2, .string s] w fun e w' => e = .returned (.tuple #[((fldA v.names v.items s).getD zA).v, .bool (fldA v.names v.items s).isSome]) ∧ Below w.heap.size w w' := by
  have HS1 := hide hs1
  have HS2 := hide hs2
  have L1 := hide hs1.1
  have L2 := hide hs2.1
  have HE := hide he
  clear hs1 hs2 he
  have B0 := hide (bAl (bAl (Below.refl w.heap.size w) (.cells #[.int .i64 v.k, .int .i64 v.a.x, .int .i64 v.a.n, .string v.a.t, .string v.a.y, .slice a1 l1 c1, .slice a2 l2 c2] 43)) (.cells #[.int .i64 0, .int .i64 0, .string empB, .string empB] 40))
  have V0 := hide ((RowIs.new w #[.int .i64 v.k, .int .i64 v.a.x, .int .i64 v.a.n, .string v.a.t, .string v.a.y, .slice a1 l1 c1, .slice a2 l2 c2] 43).keep (bAl (Below.refl _ _) (.cells #[.int .i64 0, .int .i64 0, .string empB, .string empB] 40)))
  have R0 := RowIs.new (w.alloc (.cells #[.int .i64 v.k, .int .i64 v.a.x, .int .i64 v.a.n, .string v.a.t, .string v.a.y, .slice a1 l1 c1, .slice a2 l2 c2] 43)) #[.int .i64 0, .int .i64 0, .string empB, .string empB] 40
  rw [World.size_alloc] at R0
  replace R0 := hide R0
  go_enter Tryz.func70, Tryz.ntmps70
  go_wp2_with fail
  go_loopw [11] (fun i w' => ∃ k : Nat, k ≤ l2 ∧ i = .int .i64 k ∧ Hid (Below w.heap.size w w') ∧ Hid (RowIs w' w.heap.size #[.int .i64 v.k, .int .i64 v.a.x, .int .i64 v.a.n, .string v.a.t, .string v.a.y, .slice a1 l1 c1, .slice a2 l2 c2] 43) ∧ Hid (RowIs w' (w.heap.size + 1) #[.int .i64 0, .int .i64 0, .string empB, .string empB] 40) ∧ Hid (∀ i (hi : i < v.names.length), i < k → v.names[i] ≠ s)) (fun i _ => l2 - (Go.RowKit.intOf i).toNat)
  case atStart => exact ⟨0, Nat.zero_le _, rfl, B0, V0, R0, hide (fun _ _ h => absurd h (Nat.not_lt_zero _))⟩
  case round =>
    clear B0 R0 V0
    obtain ⟨k, hk, rfl, hb, hv, hr, hN⟩ := hrel
    have zr := (unhide hr).lt
    have zv := (unhide hv).lt
    have r0 := (unhide hr).at (o := 0) (v := .int .i64 0) rfl
    have r1 := (unhide hr).at (o := 1) (v := .int .i64 0) rfl
    have r2 := (unhide hr).at (o := 2) (v := .string empB) rfl
    have r3 := (unhide hr).at (o := 3) (v := .string empB) rfl
    have g0 := (unhide hr).froz 0
    have g1 := (unhide hr).froz 1
    have g2 := (unhide hr).froz 2
    have g3 := (unhide hr).froz 3
    by_cases hlt : k < l2
    · have hk' : k < v.names.length := by rw [← unhide L2]; exact hlt
      have hk2 : k < v.items.length := by rw [← unhide HE]; exact hk'
      have hk3 : k < l1 := by rw [unhide L1]; exact hk2
      obtain ⟨b, off, rfl, hrow⟩ := ((unhide HS2).keep (unhide hb)).at hlt
      obtain ⟨b', off', rfl, hrow'⟩ := ((unhide HS1).keep (unhide hb)).at hk3
      have c0 := hrow.c k hk'
      have zk := hrow.z
      have i0 := (hrow'.c k hk2).c0
      have i1 := (hrow'.c k hk2).c1
      have i2 := (hrow'.c k hk2).c2
      have i3 := (hrow'.c k hk2).c3
      have zi := hrow'.z
      have v5 := (unhide hv).at (o := 5) (v := .slice (some ⟨b', off', none⟩) l1 c1) rfl
      have eY : Hid (v.names[k] = s → fldA v.names v.items s = some v.items[k]) := hide (fun e => fldA_at hk' hk2 (unhide hN) e)
      have eN : Hid (v.names[k] ≠ s → ∀ i (hi : i < v.names.length), i < k + 1 → v.names[i] ≠ s) := hide (fun e i hi h => by
        rcases Nat.lt_or_ge i k with h2 | h2
        · exact unhide hN i hi h2
        · obtain rfl : i = k := by omega
          exact e)
      have k0 : (0 : Int) ≤ (k : Int) := by omega
      have k3 : (k : Int) < (l1 : Int) := by omega
      clear hrow hrow'
      generalize v.items[k] = A at *
      generalize v.names[k] = S at *
      by_cases e : S = s
      · have E := hide (unhide eY e)
        subst e
        clear eY eN
        go_wp2_with fail
        have rr := ((((unhide hr).set 0 (.int .i64 A.x)).set 1 (.int .i64 A.n)).set 2 (.string A.t)).set 3 (.string A.y)
        have x0 := rr.at (o := 0) (v := .int .i64 A.x) rfl
        have x1 := rr.at (o := 1) (v := .int .i64 A.n) rfl
        have x2 := rr.at (o := 2) (v := .string A.t) rfl
        have x3 := rr.at (o := 3) (v := .string A.y) rfl
        refine bodyPost_ret (v := .tuple #[.agg #[.int .i64 A.x, .int .i64 A.n, .string A.t, .string A.y], .bool true]) (by simp [results, Tryz.results70, go_sem, x0, x1, x2, x3]) rfl ⟨by rw [unhide E]; rfl, ?_⟩
        exact ((((unhide hb).setCell (by simp) _).setCell (by simp) _).setCell (by simp) _).setCell (by simp) _
      · have E := hide (unhide eN e)
        have e' : (S.toList == s.toList) = false := by
          cases h : S.toList == s.toList
          · rfl
          · exact absurd (strEq_iff.1 h) e
        clear eY eN
        go_wp2_with fail
        exact ⟨⟨k + 1, by omega, by go_num, hb, hv, hr, E⟩, by simp [Go.RowKit.intOf]; omega⟩
    · have E : Hid (fldA v.names v.items s = none) := hide (fldA_none (fun i hi => unhide hN i hi (by have := unhide L2; omega)))
      go_wp2_with fail
      have rr := ((((unhide hr).set 0 (.int .i64 0)).set 1 (.int .i64 0)).set 2 (.string empB)).set 3 (.string empB)
      have x0 := rr.at (o := 0) (v := .int .i64 0) rfl
      have x1 := rr.at (o := 1) (v := .int .i64 0) rfl
      have x2 := rr.at (o := 2) (v := .string empB) rfl
      have x3 := rr.at (o := 3) (v := .string empB) rfl
      refine bodyPost_ret (v := .tuple #[.agg #[.int .i64 0, .int .i64 0, .string empB, .string empB], .bool false]) (by simp [results, Tryz.results70, go_sem, x0, x1, x2, x3]) rfl ⟨by rw [unhide E]; rfl, ?_⟩
      exact ((((unhide hb).setCell (by simp) _).setCell (by simp) _).setCell (by simp) _).setCell (by simp) _
end Go.Proofs.YtdflnjjomljgmaaGreatDoor.V
