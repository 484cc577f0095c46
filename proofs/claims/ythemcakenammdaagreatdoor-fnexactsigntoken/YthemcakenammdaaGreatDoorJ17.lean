/- WValS, WValT, one behind the other. -/
import Derived.Test.YthemcakenammdaaGreatDoorJ14
import Derived.Test.YthemcakenammdaaGreatDoorQAtm
import Derived.Test.YthemcakenammdaaGreatDoorJ16
/- WValS, ported from seat 1a. -/
namespace Go.Proofs.YthemcakenammdaaGreatDoor.V
open Go.RowKit

def AtomT.good (a : AtomT) : Bool := goodAtom a.x a.n a.t a.y
def AtomT.cmp (a b : AtomT) : Int := cmpA a.x a.n a.t a.y b.x b.n b.t b.y
/-- The first k are good. -/
def AllA (l : List AtomT) (k : Nat) : Prop := ∀ i (h : i < l.length), i < k → l[i].good = true
/-- The first k rise. -/
def RisA (l : List AtomT) (k : Nat) : Prop := ∀ i (h : i < l.length), 0 < i → i < k → l[i - 1].cmp l[i] < 0
def AllN (l : List ByteArray) (k : Nat) : Prop := ∀ i (h : i < l.length), i < k → goodName l[i] = true
def RisN (l : List ByteArray) (k : Nat) : Prop := ∀ i (h : i < l.length), 0 < i → i < k → cmpT l[i - 1].data.toList l[i].data.toList < 0

def zeroA (a : AtomT) : Prop := a.x = 0 ∧ a.n = 0 ∧ a.t.toList = [] ∧ a.y.toList = []
def GoodVal (v : ValT) : Prop :=
  (v.k = 1 ∧ v.a.good = true ∧ v.items = [] ∧ v.names = []) ∨
  (v.k = 2 ∧ zeroA v.a ∧ v.items.length ≤ 50 ∧ AllA v.items v.items.length ∧ RisA v.items v.items.length ∧ v.names = []) ∨
  (v.k = 3 ∧ zeroA v.a ∧ v.items.length ≤ 50 ∧ AllA v.items v.items.length ∧ v.names.length = v.items.length ∧ AllN v.names v.names.length ∧ RisN v.names v.names.length)

theorem AllA.step {l : List AtomT} {k : Nat} (h : AllA l k) (hk : k < l.length) (g : l[k].good = true) : AllA l (k + 1) := by
  intro i hi hik
  by_cases e : i = k
  · subst e; exact g
  · exact h i hi (by omega)
theorem RisA.step {l : List AtomT} {k : Nat} (h : RisA l k) (hk : k < l.length) (g : 0 < k → l[k - 1].cmp l[k] < 0) : RisA l (k + 1) := by
  intro i hi h0 hik
  by_cases e : i = k
  · subst e; exact g h0
  · exact h i hi h0 (by omega)
theorem AllN.step {l : List ByteArray} {k : Nat} (h : AllN l k) (hk : k < l.length) (g : goodName l[k] = true) : AllN l (k + 1) := by
  intro i hi hik
  by_cases e : i = k
  · subst e; exact g
  · exact h i hi (by omega)
theorem RisN.step {l : List ByteArray} {k : Nat} (h : RisN l k) (hk : k < l.length) (g : 0 < k → cmpT l[k - 1].data.toList l[k].data.toList < 0) : RisN l (k + 1) := by
  intro i hi h0 hik
  by_cases e : i = k
  · subst e; exact g h0
  · exact h i hi h0 (by omega)

theorem len_zero_iff {α : Type} {l : List α} {len : Nat} (h : len = l.length) : ((len : Int) == 0) = true ↔ l = [] := by
  rw [beq_iff_eq, ← List.length_eq_zero_iff]; omega
/-- It returns a bool that says whether p. -/
def RetB (e : Ending) (p : Prop) : Prop := ∃ b : Bool, e = .returned (.bool b) ∧ (b = true ↔ p)
theorem retB {b : Bool} {p : Prop} (h : b = true ↔ p) : RetB (.returned (.bool b)) p := ⟨b, rfl, h⟩

theorem goodVal_1 (A : AtomT) (items : List AtomT) (names : List ByteArray) : GoodVal ⟨1, A, items, names⟩ ↔ (A.good = true ∧ items = [] ∧ names = []) := by
  unfold GoodVal
  constructor
  · rintro (h | h | h)
    · exact h.2
    · exact absurd h.1 (by simp)
    · exact absurd h.1 (by simp)
  · intro h; exact .inl ⟨rfl, h⟩
theorem goodVal_2 (A : AtomT) (items : List AtomT) (names : List ByteArray) : GoodVal ⟨2, A, items, names⟩ ↔ (zeroA A ∧ items.length ≤ 50 ∧ AllA items items.length ∧ RisA items items.length ∧ names = []) := by
  unfold GoodVal
  constructor
  · rintro (h | h | h)
    · exact absurd h.1 (by simp)
    · exact h.2
    · exact absurd h.1 (by simp)
  · intro h; exact .inr (.inl ⟨rfl, h⟩)
theorem goodVal_3 (A : AtomT) (items : List AtomT) (names : List ByteArray) : GoodVal ⟨3, A, items, names⟩ ↔ (zeroA A ∧ items.length ≤ 50 ∧ AllA items items.length ∧ names.length = items.length ∧ AllN names names.length ∧ RisN names names.length) := by
  unfold GoodVal
  constructor
  · rintro (h | h | h)
    · exact absurd h.1 (by simp)
    · exact absurd h.1 (by simp)
    · exact h.2
  · intro h; exact .inr (.inr ⟨rfl, h⟩)

set_option maxHeartbeats 1000000 in
theorem sGoodValue_1 (A : AtomT) (items : List AtomT) (names : List ByteArray) (hv : A.Ok) (a1 a2 : Option Addr) (l1 c1 l2 c2 : Nat) (w : World) (e1 : l1 = items.length) (e2 : l2 = names.length) :
    Calls Tryz.prog 37 #[.agg #[.int .i64 1, .int .i64 A.x, .int .i64 A.n, .string A.t, .string A.y, .slice a1 l1 c1, .slice a2 l2 c2]] w
      fun e w' => RetB e (GoodVal ⟨1, A, items, names⟩) ∧ Below w.heap.size w w' := by
  have hg : GoodVal ⟨1, A, items, names⟩ ↔ (A.good = true ∧ ((l1 : Int) == 0) = true ∧ ((l2 : Int) == 0) = true) := by
    rw [len_zero_iff e1, len_zero_iff e2]; exact goodVal_1 A items names
  have hq := hide (fun w => sGoodAtom_any A.x A.n A.t A.y w hv.n9 hv.t9 hv.y9)
  have HG := hide hg
  clear hg e1 e2 hv
  have e : A.good = goodAtom A.x A.n A.t A.y := rfl
  cases g0 : goodAtom A.x A.n A.t A.y
  · rw [g0] at e
    have E := hide e
    have G0 := hide g0
    clear e g0
    go_enter Tryz.func37, Tryz.ntmps37
    go_wp2_with fail
    refine (unhide hq _).mono ?_
    rintro e w1 ⟨rfl, hb1⟩
    rw [unhide G0]
    go_wp2_with fail
    go_ret
    exact ⟨retB (b := false) (by rw [unhide HG, unhide E]; simp), bTr (bAl (Below.refl _ _) _) hb1⟩
  · rw [g0] at e
    have E := hide e
    have G0 := hide g0
    clear e g0
    cases g1 : ((l1 : Int) == 0) <;> cases g2 : ((l2 : Int) == 0)
    all_goals
      go_enter Tryz.func37, Tryz.ntmps37
      go_wp2_with fail
      refine (unhide hq _).mono ?_
      rintro e w1 ⟨rfl, hb1⟩
      rw [unhide G0]
      obtain ⟨_, _, _, _, _, d5, d6, _⟩ := (ValAt.new w ⟨1, A, items, names⟩ (.slice a1 l1 c1) (.slice a2 l2 c2) 33).keep hb1
      go_wp2_with fail
      go_ret
      exact ⟨retB (by rw [unhide HG, unhide E, g1, g2]; simp), bTr (bAl (Below.refl _ _) _) hb1⟩

theorem sGoodValue_else (v : ValT) (a1 a2 : Option Addr) (l1 c1 l2 c2 : Nat) (w : World) (h1 : ¬ v.k = 1) (h2 : ¬ v.k = 2) (h3 : ¬ v.k = 3) :
    Calls Tryz.prog 37 #[.agg #[.int .i64 v.k, .int .i64 v.a.x, .int .i64 v.a.n, .string v.a.t, .string v.a.y, .slice a1 l1 c1, .slice a2 l2 c2]] w
      fun e w' => RetB e (GoodVal v) ∧ Below w.heap.size w w' := by
  have hg : ¬ GoodVal v := by
    unfold GoodVal
    rintro (h | h | h)
    · exact h1 h.1
    · exact h2 h.1
    · exact h3 h.1
  have HG := hide hg
  have t1 : (v.k == 1) = false := by simpa using h1
  have t2 : (v.k == 2) = false := by simpa using h2
  have t3 : (v.k == 3) = false := by simpa using h3
  clear h1 h2 h3 hg
  go_enter Tryz.func37, Tryz.ntmps37
  go_wp2_with fail
  go_ret
  exact ⟨retB (b := false) (by simp [unhide HG]), bAl (Below.refl _ _) _⟩
end Go.Proofs.YthemcakenammdaaGreatDoor.V
/- WValT, ported from seat 1a. -/
namespace Go.Proofs.YthemcakenammdaaGreatDoor.V
open Go.RowKit

theorem toList_nil {t : ByteArray} (h : t.toList = []) : t = ⟨#[]⟩ := by
  rw [ByteArray.toList_eq] at h
  apply ByteArray.ext
  exact Array.toList_eq_nil_iff.1 h
theorem zeroA_eq {A : AtomT} (h : zeroA A) : A = ⟨0, 0, ⟨#[]⟩, ⟨#[]⟩⟩ := by
  obtain ⟨x, n, t, y⟩ := A
  obtain ⟨h1, h2, h3, h4⟩ := h
  simp only at h1 h2 h3 h4
  rw [h1, h2, toList_nil h3, toList_nil h4]

theorem AtomT.isGood (a : AtomT) (h : a.Ok) (w : World) : Calls Tryz.prog 56 #[.agg #[.int .i64 a.x, .int .i64 a.n, .string a.t, .string a.y]] w fun e w' => e = .returned (.bool a.good) ∧ Below w.heap.size w w' :=
  sGoodAtom_any a.x a.n a.t a.y w h.n9 h.t9 h.y9
theorem AtomT.isCmp (a b : AtomT) (h : a.Ok) (w : World) : Calls Tryz.prog 57 #[.agg #[.int .i64 a.x, .int .i64 a.n, .string a.t, .string a.y], .agg #[.int .i64 b.x, .int .i64 b.n, .string b.t, .string b.y]] w fun e w' => e = .returned (.int .i64 (a.cmp b)) ∧ Below w.heap.size w w' :=
  l1Cmp_any a.x a.n a.t a.y b.x b.n b.t b.y w h.t9 h.y9

set_option maxHeartbeats 1000000 in
theorem sGoodValue_2 (items : List AtomT) (names : List ByteArray) (hi : ∀ q ∈ items, AtomT.Ok q) (a1 a2 : Option Addr) (l1 c1 l2 c2 : Nat) (w : World) (hs : SlA w a1 l1 items) (e2 : l2 = names.length) :
    Calls Tryz.prog 37 #[.agg #[.int .i64 2, .int .i64 0, .int .i64 0, .string ⟨#[]⟩, .string ⟨#[]⟩, .slice a1 l1 c1, .slice a2 l2 c2]] w
      fun e w' => RetB e (GoodVal ⟨2, ⟨0, 0, ⟨#[]⟩, ⟨#[]⟩⟩, items, names⟩) ∧ Below w.heap.size w w' := by
  have hg := goodVal_2 ⟨0, 0, ⟨#[]⟩, ⟨#[]⟩⟩ items names
  have HG := hide hg
  have HS := hide hs
  have E2 := hide e2
  clear hg hs e2
  by_cases h50 : 50 < l1
  · have d5 : decide (50 < (l1 : Int)) = true := by simp; omega
    go_enter Tryz.func37, Tryz.ntmps37
    go_wp2_with fail
    go_ret
    exact ⟨retB (b := false) (by rw [unhide HG, ← (unhide HS).1]; simp; omega), bAl (Below.refl _ _) _⟩
  have d5 : decide (50 < (l1 : Int)) = false := by simp; omega
  obtain ⟨W0, hW0⟩ : ∃ W, W = w.alloc (.cells #[.int .i64 2, .int .i64 0, .int .i64 0, .string ⟨#[]⟩, .string ⟨#[]⟩, .slice a1 l1 c1, .slice a2 l2 c2] 33) := ⟨_, rfl⟩
  have HW := hide hW0
  have qv : ValAt W0 w.heap.size ⟨2, ⟨0, 0, ⟨#[]⟩, ⟨#[]⟩⟩, items, names⟩ (.slice a1 l1 c1) (.slice a2 l2 c2) := by rw [hW0]; exact ValAt.new w ⟨2, ⟨0, 0, ⟨#[]⟩, ⟨#[]⟩⟩, items, names⟩ _ _ _
  have b0 : Below w.heap.size w W0 := by rw [hW0]; exact bAl (Below.refl _ _) _
  have QV := hide qv
  have B0 := hide b0
  clear hW0 qv b0
  go_enter Tryz.func37, Tryz.ntmps37
  go_wp2_with fail
  rw [← unhide HW]
  clear HW
  go_loopw [42] (fun i w' => ∃ k : Nat, k ≤ l1 ∧ i = .int .i64 k ∧ Hid (Below W0.heap.size W0 w') ∧ Hid (AllA items k) ∧ Hid (RisA items k)) (fun i _ => l1 - (intOf i).toNat)
  case atStart => exact ⟨0, Nat.zero_le _, rfl, hide (Below.refl _ _), hide (fun i _ h => absurd h (Nat.not_lt_zero _)), hide (fun i _ _ h => absurd h (Nat.not_lt_zero _))⟩
  case round =>
    obtain ⟨k, hk, rfl, hb, hall, hris⟩ := hrel
    by_cases hlt : k < l1
    · have hk' : k < items.length := by rw [← (unhide HS).1]; exact hlt
      obtain ⟨b, off, rfl, hrow⟩ := ((unhide HS).keep (bTr (unhide B0) (unhide hb))).at hlt
      have pk := hrow.c k hk'
      have zk := hrow.z
      have hok := hi _ (List.getElem_mem hk')
      have qk := hide (fun w => AtomT.isGood items[k] hok w)
      obtain ⟨v0, _, _, _, _, v5, _, zv⟩ := (unhide QV).keep (unhide hb)
      have stepA := hide (fun g => (unhide hall).step hk' g)
      have noA : Hid (items[k].good = false → ¬ AllA items items.length) := hide (fun g h => by have := h k hk' hk'; rw [g] at this; cases this)
      obtain ⟨W, hW⟩ : ∃ W, W = wr.alloc (.cells #[.int .i64 items[k].x, .int .i64 items[k].n, .string items[k].t, .string items[k].y] 30) := ⟨_, rfl⟩
      have bW : Below wr.heap.size wr W := by rw [hW]; exact bAl (Below.refl _ _) _
      have qW : AtomAt W wr.heap.size items[k].x items[k].n items[k].t items[k].y := by rw [hW]; exact AtomAt.new wr _ _ _ _ _
      have HW := hide hW
      clear hW
      have ne : Nonempty (Kept W) := ⟨⟨W, Below.refl _ _⟩⟩
      have x0 := fun q : Kept W => (qW.kept q).c0
      have x1 := fun q : Kept W => (qW.kept q).c1
      have x2 := fun q : Kept W => (qW.kept q).c2
      have x3 := fun q : Kept W => (qW.kept q).c3
      have y0 := kept_cell (W := W) (p := ⟨w.heap.size, 0, none⟩) (Nat.lt_of_lt_of_le zv bW.size) (cellB bW zv v0)
      have y5 := kept_cell (W := W) (p := ⟨w.heap.size, 5, none⟩) (Nat.lt_of_lt_of_le zv bW.size) (cellB bW zv v5)
      have bk := hide (bTr (unhide hb) bW)
      rcases k with _ | j
      · have dj : decide ((0 : Int) < 0) = false := by simp
        have stepR := hide ((unhide hris).step hk' (fun h => absurd h (Nat.lt_irrefl 0)))
        obtain ⟨c0, c1, c2, c3⟩ := pk
        simp only [Nat.zero_mul, Nat.add_zero] at c0 c1 c2 c3
        clear hrow hok v0 v5 qW
        generalize items[0] = P at *
        cases g : P.good
        · rw [g] at qk
          replace noA := hide (unhide noA g)
          clear g
          go_wp2_with fail
          rw [← unhide HW]
          clear HW c0 c1 c2 c3
          refine wp_region_kept (by kernel_rfl) (by kernel_rfl) ?_
          repeat (first
            | go_big_quiet_step ((go_at_call 56; exact kept_call (unhide qk _)))
            | quiet_step ((go_at_call 56; exact kept_call (unhide qk _))))
          refine wpQuiet_nil ?_
          rintro _ ⟨q, rfl⟩
          go_wp2_with fail
          go_ret
          exact ⟨retB (b := false) (by rw [unhide HG]; exact ⟨fun h => (by cases h), fun h => absurd h.2.2.1 (unhide noA)⟩), bTr (unhide B0) (bTr (unhide bk) q.h)⟩
        · rw [g] at qk
          replace stepA := hide (unhide stepA g)
          clear g
          go_wp2_with fail
          rw [← unhide HW]
          clear HW c0 c1 c2 c3
          refine wp_region_kept (by kernel_rfl) (by kernel_rfl) ?_
          repeat (first
            | go_big_quiet_step ((go_at_call 56; exact kept_call (unhide qk _)))
            | quiet_step ((go_at_call 56; exact kept_call (unhide qk _))))
          refine wpQuiet_nil ?_
          rintro _ ⟨q, rfl⟩
          go_wp2_with fail
          exact ⟨⟨1, by omega, by go_num, hide (bTr (unhide bk) q.h), stepA, stepR⟩, by simp [intOf]; omega⟩
      · have pj := (hrow.c j (by omega)).keep zk bW
        have zj : b < W.heap.size := Nat.lt_of_lt_of_le zk bW.size
        have t0 := kept_cell zj pj.c0
        have t1 := kept_cell zj pj.c1
        have t2 := kept_cell zj pj.c2
        have t3 := kept_cell zj pj.c3
        have hokj := hi _ (List.getElem_mem (show j < items.length by omega))
        have qc := hide (fun w => AtomT.isCmp items[j] items[j + 1] hokj w)
        obtain ⟨c0, c1, c2, c3⟩ := pk
        have dj : decide (0 < (j : Int) + 1) = true := by simp; try omega
        have stepR := hide (fun g : items[j].cmp items[j + 1] < 0 => (unhide hris).step hk' (fun _ => g))
        have noR := hide (fun (g : ¬ items[j].cmp items[j + 1] < 0) (h : RisA items items.length) => g (h (j + 1) hk' (by omega) hk'))
        have ej : IntKind.i64.wrap ((j : Int) + 1 - 1) = (j : Int) := by rw [IntKind.wrap_i64]; omega
        have i0 : (0 : Int) ≤ (j : Int) := by omega
        have i1 : (j : Int) < (l1 : Int) := by omega
        clear hrow pj hokj hok v0 v5 qW
        generalize items[j + 1] = P at *
        generalize items[j] = Q at *
        cases g : P.good
        · rw [g] at qk
          replace noA := hide (unhide noA g)
          clear g
          go_wp2_with fail
          rw [← unhide HW]
          clear HW c0 c1 c2 c3
          refine wp_region_kept (by kernel_rfl) (by kernel_rfl) ?_
          repeat (first
            | go_big_quiet_step (first | (go_at_call 56; exact kept_call (unhide qk _)) | (go_at_call 57; exact kept_call (unhide qc _)))
            | quiet_step (first | (go_at_call 56; exact kept_call (unhide qk _)) | (go_at_call 57; exact kept_call (unhide qc _))))
          refine wpQuiet_nil ?_
          rintro _ ⟨q, rfl⟩
          go_wp2_with fail
          go_ret
          exact ⟨retB (b := false) (by rw [unhide HG]; exact ⟨fun h => (by cases h), fun h => absurd h.2.2.1 (unhide noA)⟩), bTr (unhide B0) (bTr (unhide bk) q.h)⟩
        · rw [g] at qk
          replace stepA := hide (unhide stepA g)
          clear g
          by_cases hc : Q.cmp P < 0
          · have dc : decide (0 ≤ Q.cmp P) = false := by simp; omega
            replace stepR := hide (unhide stepR hc)
            clear hc
            go_wp2_with fail
            rw [← unhide HW]
            clear HW c0 c1 c2 c3
            refine wp_region_kept (by kernel_rfl) (by kernel_rfl) ?_
            repeat (first
              | go_big_quiet_step (first | (go_at_call 56; exact kept_call (unhide qk _)) | (go_at_call 57; exact kept_call (unhide qc _)))
              | quiet_step (first | (go_at_call 56; exact kept_call (unhide qk _)) | (go_at_call 57; exact kept_call (unhide qc _))))
            refine wpQuiet_nil ?_
            rintro _ ⟨q, rfl⟩
            go_wp2_with fail
            exact ⟨⟨j + 1 + 1, by omega, by go_num, hide (bTr (unhide bk) q.h), stepA, stepR⟩, by simp [intOf]; omega⟩
          · have dc : decide (0 ≤ Q.cmp P) = true := by simp; omega
            replace noR := hide (unhide noR hc)
            clear hc
            go_wp2_with fail
            rw [← unhide HW]
            clear HW c0 c1 c2 c3
            refine wp_region_kept (by kernel_rfl) (by kernel_rfl) ?_
            repeat (first
              | go_big_quiet_step (first | (go_at_call 56; exact kept_call (unhide qk _)) | (go_at_call 57; exact kept_call (unhide qc _)))
              | quiet_step (first | (go_at_call 56; exact kept_call (unhide qk _)) | (go_at_call 57; exact kept_call (unhide qc _))))
            refine wpQuiet_nil ?_
            rintro _ ⟨q, rfl⟩
            go_wp2_with fail
            go_ret
            exact ⟨retB (b := false) (by rw [unhide HG]; exact ⟨fun h => (by cases h), fun h => absurd h.2.2.2.1 (unhide noR)⟩), bTr (unhide B0) (bTr (unhide bk) q.h)⟩
    · have e : k = items.length := by rw [← (unhide HS).1]; omega
      obtain ⟨v0, _, _, _, _, _, v6, _⟩ := (unhide QV).keep (unhide hb)
      have hfin : Hid (GoodVal ⟨2, ⟨0, 0, ⟨#[]⟩, ⟨#[]⟩⟩, items, names⟩ ↔ ((l2 : Int) == 0) = true) := hide (by
        rw [unhide HG, len_zero_iff (unhide E2)]
        have hA := unhide hall
        have hR := unhide hris
        rw [e] at hA hR
        have hl : items.length ≤ 50 := by rw [← e]; omega
        exact ⟨fun h => h.2.2.2.2, fun h => ⟨⟨rfl, rfl, by rw [ByteArray.toList_eq], by rw [ByteArray.toList_eq]⟩, hl, hA, hR, h⟩⟩)
      clear e
      go_wp2_with fail
      go_ret
      exact ⟨retB (unhide hfin).symm, bTr (unhide B0) (unhide hb)⟩
end Go.Proofs.YthemcakenammdaaGreatDoor.V
