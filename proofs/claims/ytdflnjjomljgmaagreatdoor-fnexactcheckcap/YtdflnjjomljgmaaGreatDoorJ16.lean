/- WCmp, WValS, one behind the other. -/
import Derived.Test.YtdflnjjomljgmaaGreatDoorJ15
import Derived.Test.YtdflnjjomljgmaaGreatDoorJ6
import Derived.Test.YtdflnjjomljgmaaGreatDoorJ3
import Derived.Test.YtdflnjjomljgmaaGreatDoorJ4
import Derived.Test.YtdflnjjomljgmaaGreatDoorJ8
/- WCmp, ported from seat 1a. -/
namespace Go.Proofs.YtdflnjjomljgmaaGreatDoor.V
open Go.RowKit

theorem cmpNum_any (a b : Int) (w : World) : Calls Tryz.prog 87 #[.int .i64 a, .int .i64 b] w fun e w' => e = .returned (.int .i64 (cmpN a b)) ∧ w = w' := by
  unfold cmpN
  by_cases h : a < b
  · rw [if_pos h]
    go_enter Tryz.func87, Tryz.ntmps87
    go_wp2
    go_ret
    exact ⟨rfl, rfl⟩
  · rw [if_neg h]
    by_cases h2 : b < a
    · rw [if_pos h2]
      go_enter Tryz.func87, Tryz.ntmps87
      go_wp2
      go_ret
      exact ⟨rfl, rfl⟩
    · rw [if_neg h2]
      go_enter Tryz.func87, Tryz.ntmps87
      go_wp2
      go_ret
      exact ⟨rfl, rfl⟩

theorem compareInt_any (a b : Int) (w : World) : Calls Tryz.prog 114 #[.int .i64 a, .int .i64 b] w fun e w' => e = .returned (.int .i64 (cmpN a b)) ∧ w = w' := by
  unfold cmpN
  by_cases h : a < b
  · rw [if_pos h]
    go_enter Tryz.func114, Tryz.ntmps114
    go_wp2
    go_ret
    exact ⟨rfl, rfl⟩
  · rw [if_neg h]
    by_cases h2 : b < a
    · rw [if_pos h2]
      go_enter Tryz.func114, Tryz.ntmps114
      go_wp2
      go_ret
      exact ⟨rfl, rfl⟩
    · rw [if_neg h2]
      go_enter Tryz.func114, Tryz.ntmps114
      go_wp2
      go_ret
      exact ⟨rfl, rfl⟩

theorem compareStr_any (a b : ByteArray) (w : World) : Calls Tryz.prog 115 #[.string a, .string b] w fun e w' => e = .returned (.int .i64 (cmpT a.data.toList b.data.toList)) ∧ w = w' := by
  rw [cmpT_less, ← ByteArray.toList_eq, ← ByteArray.toList_eq]
  cases h : Op.bytesLess a.toList b.toList
  · cases h2 : a.toList == b.toList
    all_goals
      go_enter Tryz.func115, Tryz.ntmps115
      go_wp2
      go_ret
      exact ⟨rfl, rfl⟩
  · go_enter Tryz.func115, Tryz.ntmps115
    go_wp2
    go_ret
    exact ⟨rfl, rfl⟩

set_option maxHeartbeats 1000000 in
theorem cmpText_any (a b : ByteArray) (w : World) (ha : a.size ≤ maxLen) :
    Calls Tryz.prog 64 #[.string a, .string b] w fun e w' => e = .returned (.int .i64 (cmpT a.data.toList b.data.toList)) ∧ Below w.heap.size w w' := by
  unfold maxLen at ha
  have la : a.data.toList.length = a.size := by simp
  have lb : b.data.toList.length = b.size := by simp
  have LA := hide la
  have LB := hide lb
  clear la lb
  go_enter Tryz.func64, Tryz.ntmps64
  go_wp2
  go_loopw [5] (fun i w' => ∃ k : Nat, k ≤ a.size ∧ k ≤ b.size ∧ i = .int .i64 k ∧ Below w.heap.size w w' ∧ Hid (cmpT a.data.toList b.data.toList = cmpT (a.data.toList.drop k) (b.data.toList.drop k))) (fun i _ => a.size - (intOf i).toNat)
  case atStart => exact ⟨0, Nat.zero_le _, Nat.zero_le _, rfl, Below.refl _ _, hide (by simp)⟩
  case round =>
    obtain ⟨k, hk1, hk2, rfl, hbel, hc⟩ := hrel
    by_cases h1 : (k : Int) < (a.size : Int)
    · by_cases h2 : (k : Int) < (b.size : Int)
      · have h0 : (0 : Int) ≤ (k : Int) := by omega
        have ka : k < a.size := by omega
        have kb : k < b.size := by omega
        have eA : a.data.toList[k]'(by rw [unhide LA]; exact ka) = a[k] := rfl
        have eB : b.data.toList[k]'(by rw [unhide LB]; exact kb) = b[k] := rfl
        have EA := hide eA
        have EB := hide eB
        clear eA eB
        cases hne : ((a[k].toNat : Int) != (b[k].toNat : Int))
        · have he : a[k] = b[k] := by
            apply u8_eq; simpa using hne
          have HE := hide he
          clear he
          go_wp2
          go_quiet (fail)
          go_wp2
          go_roundw
          case rel => exact ⟨k + 1, by omega, by omega, by go_num, below_drewN hbel _, hide (by rw [unhide hc]; exact cmpT_drop_step _ _ k (by rw [unhide LA]; exact ka) (by rw [unhide LB]; exact kb) (unhide HE))⟩
          case measure => simp [intOf]; omega
        · have he : ¬ a[k] = b[k] := by
            intro h; rw [h] at hne; simp at hne
          have HE := hide he
          clear he
          have wA : IntKind.i64.wrap (a[k].toNat : Int) = (a[k].toNat : Int) := by rw [IntKind.wrap_i64]; have := a[k].toNat_lt; omega
          have wB : IntKind.i64.wrap (b[k].toNat : Int) = (b[k].toNat : Int) := by rw [IntKind.wrap_i64]; have := b[k].toNat_lt; omega
          go_wp2
          go_quiet (fail)
          replace hbel := below_drewN hbel nq
          generalize wr.drewN nq = w5 at hbel ⊢
          go_wp2
          go_quiet ((go_at_call 87; exact quiet_same (cmpNum_any _ _ _)))
          go_wp2
          go_ret
          refine ⟨ret_int ?_, below_drewN hbel _⟩
          rw [unhide hc, cmpT_drop_differ _ _ k (by rw [unhide LA]; exact ka) (by rw [unhide LB]; exact kb) (unhide HE)]
          rfl
      · have d2 : decide ((k : Int) < (b.size : Int)) = false := by simpa using h2
        go_wp2_with (go_at_call 87; refine (cmpNum_any _ _ _).mono ?_; rintro e w' ⟨rfl, rfl⟩)
        go_ret
        refine ⟨ret_int ?_, hbel⟩
        rw [unhide hc, cmpT_drop_end _ _ k (by rw [unhide LA, unhide LB]; omega), unhide LA, unhide LB]
    · have d1 : decide ((k : Int) < (a.size : Int)) = false := by simpa using h1
      go_wp2_with (go_at_call 87; refine (cmpNum_any _ _ _).mono ?_; rintro e w' ⟨rfl, rfl⟩)
      go_ret
      refine ⟨ret_int ?_, hbel⟩
      rw [unhide hc, cmpT_drop_end _ _ k (by rw [unhide LA, unhide LB]; omega), unhide LA, unhide LB]

theorem bne_zero {c : Int} (h : ¬ c = 0) : (c != 0) = true := by simpa using h

set_option maxHeartbeats 1000000 in
theorem l1Cmp_any (x n : Int) (t y : ByteArray) (x' n' : Int) (t' y' : ByteArray) (w : World) (ht : t.size ≤ maxLen) (hy : y.size ≤ maxLen) :
    Calls Tryz.prog 63 #[.agg #[.int .i64 x, .int .i64 n, .string t, .string y], .agg #[.int .i64 x', .int .i64 n', .string t', .string y']] w
      fun e w' => e = .returned (.int .i64 (cmpA x n t y x' n' t' y')) ∧ Below w.heap.size w w' := by
  unfold cmpA
  have h1 := hide (fun w => cmpNum_any x x' w)
  have h2 := hide (fun w => cmpNum_any n n' w)
  have h3 := hide (fun w => cmpText_any y y' w hy)
  have h4 := hide (fun w => cmpText_any t t' w ht)
  generalize cmpN x x' = c1 at h1 ⊢
  generalize cmpN n n' = c2 at h2 ⊢
  generalize cmpT y.data.toList y'.data.toList = c3 at h3 ⊢
  generalize cmpT t.data.toList t'.data.toList = c4 at h4 ⊢
  clear ht hy
  unfold orI
  by_cases g1 : c1 = 0
  · subst g1
    rw [if_pos rfl]
    by_cases g2 : c2 = 0
    · subst g2
      rw [if_pos rfl]
      by_cases g3 : c3 = 0
      · subst g3
        rw [if_pos rfl]
        go_enter Tryz.func63, Tryz.ntmps63
        go_wp2_with fail
        refine (unhide h1 _).mono ?_
        rintro e w' ⟨rfl, rfl⟩
        go_wp2_with fail
        refine (unhide h2 _).mono ?_
        rintro e w' ⟨rfl, rfl⟩
        go_wp2_with fail
        refine (unhide h3 _).mono ?_
        rintro e w1 ⟨rfl, hb1⟩
        obtain ⟨_, _, c2, _, _⟩ := ((AtomAt.new w _ _ _ _ _).more _).keep hb1
        obtain ⟨_, _, d2, _, _⟩ := (AtomAt.new1 w _ _ _ _ _ _).keep hb1
        go_wp2_with fail
        refine (unhide h4 _).mono ?_
        rintro e w2 ⟨rfl, hb2⟩
        go_wp2_with fail
        go_ret
        exact ⟨rfl, bTr (bTr (bAl (bAl (Below.refl _ _) _) _) hb1) hb2⟩
      · rw [if_neg g3]
        replace g3 := bne_zero g3
        go_enter Tryz.func63, Tryz.ntmps63
        go_wp2_with fail
        refine (unhide h1 _).mono ?_
        rintro e w' ⟨rfl, rfl⟩
        go_wp2_with fail
        refine (unhide h2 _).mono ?_
        rintro e w' ⟨rfl, rfl⟩
        go_wp2_with fail
        refine (unhide h3 _).mono ?_
        rintro e w1 ⟨rfl, hb1⟩
        go_wp2_with fail
        go_ret
        exact ⟨rfl, bTr (bAl (bAl (Below.refl _ _) _) _) hb1⟩
    · rw [if_neg g2]
      replace g2 := bne_zero g2
      go_enter Tryz.func63, Tryz.ntmps63
      go_wp2_with fail
      refine (unhide h1 _).mono ?_
      rintro e w' ⟨rfl, rfl⟩
      go_wp2_with fail
      refine (unhide h2 _).mono ?_
      rintro e w' ⟨rfl, rfl⟩
      go_wp2_with fail
      go_ret
      exact ⟨rfl, bAl (bAl (Below.refl _ _) _) _⟩
  · rw [if_neg g1]
    replace g1 := bne_zero g1
    go_enter Tryz.func63, Tryz.ntmps63
    go_wp2_with fail
    refine (unhide h1 _).mono ?_
    rintro e w' ⟨rfl, rfl⟩
    go_wp2_with fail
    go_ret
    exact ⟨rfl, bAl (bAl (Below.refl _ _) _) _⟩

def orFrom (v0 v1 v2 v3 : Int) : Nat → Int
  | 0 => orI v0 (orI v1 (orI v2 v3))
  | 1 => orI v1 (orI v2 v3)
  | 2 => orI v2 v3
  | 3 => v3
  | _ => 0
theorem orI_zero (b : Int) : orI 0 b = b := by unfold orI; rw [if_pos rfl]
theorem orI_not {a : Int} (h : ¬ a = 0) (b : Int) : orI a b = a := by unfold orI; rw [if_neg h]

set_option maxHeartbeats 1000000 in
theorem cmpOr_any (b : Nat) (v0 v1 v2 v3 : Int) (w : World) (c0 : w.cell? ⟨b, 0, none⟩ = some (.int .i64 v0)) (c1 : w.cell? ⟨b, 1, none⟩ = some (.int .i64 v1))
    (c2 : w.cell? ⟨b, 2, none⟩ = some (.int .i64 v2)) (c3 : w.cell? ⟨b, 3, none⟩ = some (.int .i64 v3)) :
    Calls Tryz.prog 113 #[.slice (some ⟨b, 0, none⟩) 4 4] w fun e w' => e = .returned (.int .i64 (orI v0 (orI v1 (orI v2 v3)))) ∧ w = w' := by
  go_enter Tryz.func113, Tryz.ntmps113
  go_wp2
  go_loop [8] (fun i => ∃ k : Nat, k ≤ 4 ∧ i = .int .i64 k ∧ Hid (orI v0 (orI v1 (orI v2 v3)) = orFrom v0 v1 v2 v3 k)) (fun i => 4 - (intOf i).toNat)
  case atStart => exact ⟨0, Nat.zero_le _, rfl, hide rfl⟩
  case round =>
    obtain ⟨k, hk, rfl, ho⟩ := hrel
    have hk' : k = 0 ∨ k = 1 ∨ k = 2 ∨ k = 3 ∨ k = 4 := by omega
    rcases hk' with rfl | rfl | rfl | rfl | rfl
    · by_cases g : v0 = 0
      · subst g
        go_wp2
        exact ⟨⟨1, by omega, rfl, hide (by rw [unhide ho]; exact orI_zero _)⟩, by simp [intOf]⟩
      · replace ho := hide (by rw [unhide ho]; exact orI_not g _ : orI v0 (orI v1 (orI v2 v3)) = v0)
        replace g := bne_zero g
        go_wp2
        go_ret
        exact ⟨ret_int (unhide ho).symm, rfl⟩
    · by_cases g : v1 = 0
      · subst g
        go_wp2
        exact ⟨⟨2, by omega, rfl, hide (by rw [unhide ho]; exact orI_zero _)⟩, by simp [intOf]⟩
      · replace ho := hide (by rw [unhide ho]; exact orI_not g _ : orI v0 (orI v1 (orI v2 v3)) = v1)
        replace g := bne_zero g
        go_wp2
        go_ret
        exact ⟨ret_int (unhide ho).symm, rfl⟩
    · by_cases g : v2 = 0
      · subst g
        go_wp2
        exact ⟨⟨3, by omega, rfl, hide (by rw [unhide ho]; exact orI_zero _)⟩, by simp [intOf]⟩
      · replace ho := hide (by rw [unhide ho]; exact orI_not g _ : orI v0 (orI v1 (orI v2 v3)) = v2)
        replace g := bne_zero g
        go_wp2
        go_ret
        exact ⟨ret_int (unhide ho).symm, rfl⟩
    · by_cases g : v3 = 0
      · subst g
        go_wp2
        exact ⟨⟨4, by omega, rfl, hide (by rw [unhide ho]; rfl)⟩, by simp [intOf]⟩
      · replace ho := hide (by rw [unhide ho]; rfl : orI v0 (orI v1 (orI v2 v3)) = v3)
        replace g := bne_zero g
        go_wp2
        go_ret
        exact ⟨ret_int (unhide ho).symm, rfl⟩
    · go_wp2
      go_ret
      exact ⟨ret_int (unhide ho).symm, rfl⟩
end Go.Proofs.YtdflnjjomljgmaaGreatDoor.V
/- WValS, ported from seat 1a. -/
namespace Go.Proofs.YtdflnjjomljgmaaGreatDoor.V
open Go.RowKit

def AtomT.good (a : AtomT) : Bool := goodAtom a.x a.n a.t a.y
def AtomT.cmp (a b : AtomT) : Int := cmpA a.x a.n a.t a.y b.x b.n b.t b.y
/-- The first k are good. -/
def AllA (l : List AtomT) (k : Nat) : Prop := ∀ i (h : i < l.length), i < k → l[i].good = true
/-- The first k rise. -/
def RisA (l : List AtomT) (k : Nat) : Prop := ∀ i (h : i < l.length), 0 < i → i < k → l[i - 1].cmp l[i] < 0
def AllN (l : List ByteArray) (k : Nat) : Prop := ∀ i (h : i < l.length), i < k → goodName l[i] = true
def RisN (l : List ByteArray) (k : Nat) : Prop := ∀ i (h : i < l.length), 0 < i → i < k → cmpT l[i - 1].data.toList l[i].data.toList < 0

def zeroA (a : AtomT) : Prop := a.x = 0 ∧ a.n = 0 ∧ a.t.toList = [] ∧ a.y.toList = []
def GoodVal (v : ValT) : Prop :=
  (v.k = 1 ∧ v.a.good = true ∧ v.items = [] ∧ v.names = []) ∨
  (v.k = 2 ∧ zeroA v.a ∧ v.items.length ≤ 50 ∧ AllA v.items v.items.length ∧ RisA v.items v.items.length ∧ v.names = []) ∨
  (v.k = 3 ∧ zeroA v.a ∧ v.items.length ≤ 50 ∧ AllA v.items v.items.length ∧ v.names.length = v.items.length ∧ AllN v.names v.names.length ∧ RisN v.names v.names.length)

theorem AllA.step {l : List AtomT} {k : Nat} (h : AllA l k) (hk : k < l.length) (g : l[k].good = true) : AllA l (k + 1) := by
  intro i hi hik
  by_cases e : i = k
  · subst e; exact g
  · exact h i hi (by omega)
theorem RisA.step {l : List AtomT} {k : Nat} (h : RisA l k) (hk : k < l.length) (g : 0 < k → l[k - 1].cmp l[k] < 0) : RisA l (k + 1) := by
  intro i hi h0 hik
  by_cases e : i = k
  · subst e; exact g h0
  · exact h i hi h0 (by omega)
theorem AllN.step {l : List ByteArray} {k : Nat} (h : AllN l k) (hk : k < l.length) (g : goodName l[k] = true) : AllN l (k + 1) := by
  intro i hi hik
  by_cases e : i = k
  · subst e; exact g
  · exact h i hi (by omega)
theorem RisN.step {l : List ByteArray} {k : Nat} (h : RisN l k) (hk : k < l.length) (g : 0 < k → cmpT l[k - 1].data.toList l[k].data.toList < 0) : RisN l (k + 1) := by
  intro i hi h0 hik
  by_cases e : i = k
  · subst e; exact g h0
  · exact h i hi h0 (by omega)

theorem len_zero_iff {α : Type} {l : List α} {len : Nat} (h : len = l.length) : ((len : Int) == 0) = true ↔ l = [] := by
  rw [beq_iff_eq, ← List.length_eq_zero_iff]; omega
/-- It returns a bool that says whether p. -/
def RetB (e : Ending) (p : Prop) : Prop := ∃ b : Bool, e = .returned (.bool b) ∧ (b = true ↔ p)
theorem retB {b : Bool} {p : Prop} (h : b = true ↔ p) : RetB (.returned (.bool b)) p := ⟨b, rfl, h⟩

theorem goodVal_1 (A : AtomT) (items : List AtomT) (names : List ByteArray) : GoodVal ⟨1, A, items, names⟩ ↔ (A.good = true ∧ items = [] ∧ names = []) := by
  unfold GoodVal
  constructor
  · rintro (h | h | h)
    · exact h.2
    · exact absurd h.1 (by simp)
    · exact absurd h.1 (by simp)
  · intro h; exact .inl ⟨rfl, h⟩
theorem goodVal_2 (A : AtomT) (items : List AtomT) (names : List ByteArray) : GoodVal ⟨2, A, items, names⟩ ↔ (zeroA A ∧ items.length ≤ 50 ∧ AllA items items.length ∧ RisA items items.length ∧ names = []) := by
  unfold GoodVal
  constructor
  · rintro (h | h | h)
    · exact absurd h.1 (by simp)
    · exact h.2
    · exact absurd h.1 (by simp)
  · intro h; exact .inr (.inl ⟨rfl, h⟩)
theorem goodVal_3 (A : AtomT) (items : List AtomT) (names : List ByteArray) : GoodVal ⟨3, A, items, names⟩ ↔ (zeroA A ∧ items.length ≤ 50 ∧ AllA items items.length ∧ names.length = items.length ∧ AllN names names.length ∧ RisN names names.length) := by
  unfold GoodVal
  constructor
  · rintro (h | h | h)
    · exact absurd h.1 (by simp)
    · exact absurd h.1 (by simp)
    · exact h.2
  · intro h; exact .inr (.inr ⟨rfl, h⟩)

set_option maxHeartbeats 1000000 in
theorem sGoodValue_1 (A : AtomT) (items : List AtomT) (names : List ByteArray) (hv : A.Ok) (a1 a2 : Option Addr) (l1 c1 l2 c2 : Nat) (w : World) (e1 : l1 = items.length) (e2 : l2 = names.length) :
    Calls Tryz.prog 41 #[.agg #[.int .i64 1, .int .i64 A.x, .int .i64 A.n, .string A.t, .string A.y, .slice a1 l1 c1, .slice a2 l2 c2]] w
      fun e w' => RetB e (GoodVal ⟨1, A, items, names⟩) ∧ Below w.heap.size w w' := by
  have hg : GoodVal ⟨1, A, items, names⟩ ↔ (A.good = true ∧ ((l1 : Int) == 0) = true ∧ ((l2 : Int) == 0) = true) := by
    rw [len_zero_iff e1, len_zero_iff e2]; exact goodVal_1 A items names
  have hq := hide (fun w => sGoodAtom_any A.x A.n A.t A.y w hv.n9 hv.t9 hv.y9)
  have HG := hide hg
  clear hg e1 e2 hv
  have e : A.good = goodAtom A.x A.n A.t A.y := rfl
  cases g0 : goodAtom A.x A.n A.t A.y
  · rw [g0] at e
    have E := hide e
    have G0 := hide g0
    clear e g0
    go_enter Tryz.func41, Tryz.ntmps41
    go_wp2_with fail
    refine (unhide hq _).mono ?_
    rintro e w1 ⟨rfl, hb1⟩
    rw [unhide G0]
    go_wp2_with fail
    go_ret
    exact ⟨retB (b := false) (by rw [unhide HG, unhide E]; simp), bTr (bAl (Below.refl _ _) _) hb1⟩
  · rw [g0] at e
    have E := hide e
    have G0 := hide g0
    clear e g0
    cases g1 : ((l1 : Int) == 0) <;> cases g2 : ((l2 : Int) == 0)
    all_goals
      go_enter Tryz.func41, Tryz.ntmps41
      go_wp2_with fail
      refine (unhide hq _).mono ?_
      rintro e w1 ⟨rfl, hb1⟩
      rw [unhide G0]
      obtain ⟨_, _, _, _, _, d5, d6, _⟩ := (ValAt.new w ⟨1, A, items, names⟩ (.slice a1 l1 c1) (.slice a2 l2 c2) 43).keep hb1
      go_wp2_with fail
      go_ret
      exact ⟨retB (by rw [unhide HG, unhide E, g1, g2]; simp), bTr (bAl (Below.refl _ _) _) hb1⟩

theorem sGoodValue_else (v : ValT) (a1 a2 : Option Addr) (l1 c1 l2 c2 : Nat) (w : World) (h1 : ¬ v.k = 1) (h2 : ¬ v.k = 2) (h3 : ¬ v.k = 3) :
    Calls Tryz.prog 41 #[.agg #[.int .i64 v.k, .int .i64 v.a.x, .int .i64 v.a.n, .string v.a.t, .string v.a.y, .slice a1 l1 c1, .slice a2 l2 c2]] w
      fun e w' => RetB e (GoodVal v) ∧ Below w.heap.size w w' := by
  have hg : ¬ GoodVal v := by
    unfold GoodVal
    rintro (h | h | h)
    · exact h1 h.1
    · exact h2 h.1
    · exact h3 h.1
  have HG := hide hg
  have t1 : (v.k == 1) = false := by simpa using h1
  have t2 : (v.k == 2) = false := by simpa using h2
  have t3 : (v.k == 3) = false := by simpa using h3
  clear h1 h2 h3 hg
  go_enter Tryz.func41, Tryz.ntmps41
  go_wp2_with fail
  go_ret
  exact ⟨retB (b := false) (by simp [unhide HG]), bAl (Below.refl _ _) _⟩
end Go.Proofs.YtdflnjjomljgmaaGreatDoor.V
