/- WCmpA, WValI, one behind the other. -/
import Derived.Test.YtdflnjjomljgmaaGreatDoorJ16
import Derived.Test.YtdflnjjomljgmaaGreatDoorJ8
import Derived.Deep.RegionHeld3
import Derived.Deep.DeepCutAuto
import Derived.Test.YtdflnjjomljgmaaGreatDoorJ17
import Derived.Lib.Bytealg
import Derived.Laws.Externs
/- WCmpA, ported from seat 1a. -/
namespace Go.Proofs.YtdflnjjomljgmaaGreatDoor.V
open Go.RowKit

def cmpG (x n : Int) (t y : ByteArray) (x' n' : Int) (t' y' : ByteArray) : Int :=
  if goodAtom x n t y = true ∧ goodAtom x' n' t' y' = true then cmpA x n t y x' n' t' y' else -2

set_option maxHeartbeats 1000000 in
theorem iCompare_any (x n : Int) (t y : ByteArray) (x' n' : Int) (t' y' : ByteArray) (w : World) (h9 : n ≤ 9223372036854775807) (ht : t.size ≤ maxLen) (hy : y.size ≤ maxLen)
    (h9' : n' ≤ 9223372036854775807) (ht' : t'.size ≤ maxLen) (hy' : y'.size ≤ maxLen) :
    Calls Tryz.prog 99 #[.agg #[.int .i64 x, .int .i64 n, .string t, .string y], .agg #[.int .i64 x', .int .i64 n', .string t', .string y']] w
      fun e w' => e = .returned (.int .i64 (cmpG x n t y x' n' t' y')) ∧ Below w.heap.size w w' := by
  have hA := hide (fun w => iGoodAtom_any x n t y w h9 ht hy)
  have hB := hide (fun w => iGoodAtom_any x' n' t' y' w h9' ht' hy')
  unfold cmpG
  generalize goodAtom x n t y = ga at hA ⊢
  generalize goodAtom x' n' t' y' = gb at hB ⊢
  clear h9 ht hy h9' ht' hy'
  cases ga
  · rw [if_neg (by simp)]
    go_enter Tryz.func99, Tryz.ntmps99
    go_wp2_with fail
    refine (unhide hA _).mono ?_
    rintro e w1 ⟨rfl, hb1⟩
    go_wp2_with fail
    go_ret
    exact ⟨rfl, bTr (bAl (bAl (Below.refl _ _) _) _) hb1⟩
  cases gb
  · rw [if_neg (by simp)]
    go_enter Tryz.func99, Tryz.ntmps99
    go_wp2_with fail
    refine (unhide hA _).mono ?_
    rintro e w1 ⟨rfl, hb1⟩
    obtain ⟨d0, d1, d2, d3, _⟩ := (AtomAt.new1 w _ _ _ _ _ _).keep hb1
    go_wp2_with fail
    refine (unhide hB _).mono ?_
    rintro e w2 ⟨rfl, hb2⟩
    go_wp2_with fail
    go_ret
    exact ⟨rfl, bTr (bTr (bAl (bAl (Below.refl _ _) _) _) hb1) hb2⟩
  rw [if_pos (by simp)]
  by_cases heq : x = x' ∧ n = n' ∧ t.toList = t'.toList ∧ y.toList = y'.toList
  · obtain ⟨rfl, rfl, ht, hy⟩ := heq
    rw [ByteArray.toList_eq, ByteArray.toList_eq] at ht hy
    obtain rfl := Go.WideShapes.bytes_inj ht
    obtain rfl := Go.WideShapes.bytes_inj hy
    clear ht hy
    have hz : cmpA x n t y x n t y = 0 := by
      unfold cmpA
      rw [cmpN_self, cmpN_self, cmpT_self, cmpT_self]; rfl
    rw [hz]
    clear hz
    go_enter Tryz.func99, Tryz.ntmps99
    go_wp2_with fail
    refine (unhide hA _).mono ?_
    rintro e w1 ⟨rfl, hb1⟩
    have qa := ((AtomAt.new w _ _ _ _ _).more _).keep hb1
    have qb := (AtomAt.new1 w _ _ _ _ _ _).keep hb1
    obtain ⟨d0, d1, d2, d3, _⟩ := hide qb
    go_wp2_with fail
    refine (unhide hB _).mono ?_
    rintro e w2 ⟨rfl, hb2⟩
    clear d0 d1 d2 d3
    obtain ⟨c0, c1, c2, c3, _⟩ := qa.keep hb2
    obtain ⟨d0, d1, d2, d3, _⟩ := qb.keep hb2
    have bw2 := bTr (bTr (bAl (bAl (Below.refl _ _) _) _) hb1) hb2
    clear qa qb hb1 hb2 hA hB
    go_wp2_with fail
    go_ret
    exact ⟨rfl, bw2⟩
  have HE := hide heq
  clear heq
  have h1 := hide (fun w => compareInt_any x x' w)
  have h2 := hide (fun w => compareInt_any n n' w)
  have h3 := hide (fun w => compareStr_any y y' w)
  have h4 := hide (fun w => compareStr_any t t' w)
  unfold cmpA
  generalize cmpN x x' = v0 at h1 ⊢
  generalize cmpN n n' = v1 at h2 ⊢
  generalize cmpT y.data.toList y'.data.toList = v2 at h3 ⊢
  generalize cmpT t.data.toList t'.data.toList = v3 at h4 ⊢
  go_enter Tryz.func99, Tryz.ntmps99
  go_wp2_with fail
  refine (unhide hA _).mono ?_
  rintro e w1 ⟨rfl, hb1⟩
  have qa := ((AtomAt.new w _ _ _ _ _).more _).keep hb1
  have qb := (AtomAt.new1 w _ _ _ _ _ _).keep hb1
  obtain ⟨d0, d1, d2, d3, _⟩ := hide qb
  go_wp2_with fail
  refine (unhide hB _).mono ?_
  rintro e w2 ⟨rfl, hb2⟩
  clear d0 d1 d2 d3
  obtain ⟨c0, c1, c2, c3, _⟩ := qa.keep hb2
  obtain ⟨d0, d1, d2, d3, _⟩ := qb.keep hb2
  have bw2 := bTr (bTr (bAl (bAl (Below.refl _ _) _) _) hb1) hb2
  clear qa qb hb1 hb2 hA hB
  go_upto_region 3 with fail
  go_cut [0, 1, 15] (fun s0 s1 s w' => s0 = .agg #[.int .i64 x, .int .i64 n, .string t, .string y] ∧ s1 = .agg #[.int .i64 x', .int .i64 n', .string t', .string y'] ∧ s = .bool false ∧ w' = w2)
  case first =>
    clear h1 h2 h3 h4
    go_wp2_with fail
    · exact absurd ⟨‹_›, ‹_›, ‹_›, ‹_›⟩ (unhide HE)
    all_goals go_meet
    all_goals (clear HE; refine ⟨by simp [*], rfl, rfl, rfl⟩)
  case rest =>
    obtain ⟨rfl, rfl, rfl, rfl⟩ := hcut
    clear HE
    go_wp2_with fail
    have zA : w.heap.size < wc.heap.size := World.block_lt_of_cell? wc _ c1
    have zB : w.heap.size + 1 < wc.heap.size := World.block_lt_of_cell? wc _ d1
    go_region_held3 (fun w' => w'.cell? ⟨w.heap.size, 0, none⟩ = some (.int .i64 x) ∧ w'.cell? ⟨w.heap.size, 1, none⟩ = some (.int .i64 n) ∧ w'.cell? ⟨w.heap.size, 2, none⟩ = some (.string t) ∧ w'.cell? ⟨w.heap.size, 3, none⟩ = some (.string y)
        ∧ w'.cell? ⟨w.heap.size + 1, 0, none⟩ = some (.int .i64 x') ∧ w'.cell? ⟨w.heap.size + 1, 1, none⟩ = some (.int .i64 n') ∧ w'.cell? ⟨w.heap.size + 1, 2, none⟩ = some (.string t') ∧ w'.cell? ⟨w.heap.size + 1, 3, none⟩ = some (.string y'))
      ((refine ⟨cellB (W := wc) ?_ zA c0, cellB (W := wc) ?_ zA c1, cellB (W := wc) ?_ zA c2, cellB (W := wc) ?_ zA c3, cellB (W := wc) ?_ zB d0, cellB (W := wc) ?_ zB d1, cellB (W := wc) ?_ zB d2, cellB (W := wc) ?_ zB d3⟩ <;> (repeat (first | exact Below.refl _ _ | refine Below.drew ?_ | refine bAl ?_ _))))
      (first
        | (go_at_call_of 114 x; refine (unhide h1 _).mono ?_; rintro e w' ⟨rfl, rfl⟩)
        | (go_at_call_of 114 n; refine (unhide h2 _).mono ?_; rintro e w' ⟨rfl, rfl⟩)
        | (go_at_call_of 115 y; refine (unhide h3 _).mono ?_; rintro e w' ⟨rfl, rfl⟩)
        | (go_at_call_of 115 t; refine (unhide h4 _).mono ?_; rintro e w' ⟨rfl, rfl⟩)
        | (go_at_call 113; refine (cmpOr_any wc.heap.size v0 v1 v2 v3 _ ?_ ?_ ?_ ?_).mono ?_; (go_simp); (go_simp); (go_simp); (go_simp); rintro e w' ⟨rfl, rfl⟩))
    go_wp2_with fail
    go_ret
    refine ⟨rfl, bTr bw2 ?_⟩
    (repeat (first | exact Below.refl _ _ | refine Below.drew ?_ | refine bAl ?_ _))
end Go.Proofs.YtdflnjjomljgmaaGreatDoor.V
/- WValI, ported from seat 1a. -/
namespace Go.Proofs.YtdflnjjomljgmaaGreatDoor.V
open Go.RowKit

theorem AtomT.iGood (a : AtomT) (h : a.Ok) (w : World) : Calls Tryz.prog 77 #[.agg #[.int .i64 a.x, .int .i64 a.n, .string a.t, .string a.y]] w fun e w' => e = .returned (.bool a.good) ∧ Below w.heap.size w w' :=
  iGoodAtom_any a.x a.n a.t a.y w h.n9 h.t9 h.y9
theorem AtomT.iCmp (a b : AtomT) (h : a.Ok) (h' : b.Ok) (g : a.good = true) (g' : b.good = true) (w : World) :
    Calls Tryz.prog 99 #[.agg #[.int .i64 a.x, .int .i64 a.n, .string a.t, .string a.y], .agg #[.int .i64 b.x, .int .i64 b.n, .string b.t, .string b.y]] w fun e w' => e = .returned (.int .i64 (a.cmp b)) ∧ Below w.heap.size w w' := by
  have := iCompare_any a.x a.n a.t a.y b.x b.n b.t b.y w h.n9 h.t9 h.y9 h'.n9 h'.t9 h'.y9
  unfold cmpG at this
  rw [if_pos ⟨g, g'⟩] at this
  exact this

set_option maxHeartbeats 400000 in
theorem allGood_any (a : Option Addr) (len cap : Nat) (l : List AtomT) (w : World) (hl : len ≤ maxLen) (hs : SlA w a len l) (hi : ∀ q ∈ l, AtomT.Ok q) :
    Calls Tryz.prog 112 #[.slice a len cap] w fun e w' => RetB e (AllA l l.length) ∧ Below w.heap.size w w' := by
  unfold maxLen at hl
  have HS := hide hs
  clear hs
  go_enter Tryz.func112, Tryz.ntmps112
  go_wp2
  go_loopw [7] (fun i w' => ∃ k : Nat, k ≤ len ∧ i = .int .i64 k ∧ Hid (Below w.heap.size w w') ∧ Hid (AllA l k)) (fun i _ => len - (intOf i).toNat)
  case atStart => exact ⟨0, Nat.zero_le _, rfl, hide (Below.refl _ _), hide (fun i _ h => absurd h (Nat.not_lt_zero _))⟩
  case round =>
    obtain ⟨k, hk, rfl, hb, hall⟩ := hrel
    by_cases hlt : k < len
    · have hk' : k < l.length := by rw [← (unhide HS).1]; exact hlt
      obtain ⟨b, off, rfl, hrow⟩ := ((unhide HS).keep (unhide hb)).at hlt
      obtain ⟨c0, c1, c2, c3⟩ := hrow.c k hk'
      have hok := hi _ (List.getElem_mem hk')
      have qk := hide (fun w => AtomT.iGood l[k] hok w)
      have stepA := hide (fun g => (unhide hall).step hk' g)
      have noA : Hid (l[k].good = false → ¬ AllA l l.length) := hide (fun g h => by have := h k hk' hk'; rw [g] at this; cases this)
      clear hrow hok
      generalize l[k] = P at *
      cases g : P.good
      · rw [g] at qk
        replace noA := hide (unhide noA g)
        clear g
        go_wp2_with (go_at_call 77; refine (unhide qk _).mono ?_; rintro e w5 ⟨rfl, hb5⟩)
        go_ret
        exact ⟨retB (b := false) ⟨fun h => (by cases h), fun h => absurd h (unhide noA)⟩, bTr (bAl (unhide hb) _) hb5⟩
      · rw [g] at qk
        replace stepA := hide (unhide stepA g)
        clear g
        go_wp2_with (go_at_call 77; refine (unhide qk _).mono ?_; rintro e w5 ⟨rfl, hb5⟩)
        exact ⟨⟨k + 1, by omega, by go_num, hide (bTr (bAl (unhide hb) _) hb5), stepA⟩, by simp [intOf]; omega⟩
    · have e : k = l.length := by rw [← (unhide HS).1]; omega
      have hA : Hid (AllA l l.length) := hide (by rw [← e]; exact unhide hall)
      clear e
      go_wp2_with fail
      go_ret
      exact ⟨retB (b := true) ⟨fun _ => unhide hA, fun _ => rfl⟩, unhide hb⟩

theorem goodItems_any (a : Option Addr) (len cap : Nat) (l : List AtomT) (w : World) (hl : len ≤ maxLen) (hs : SlA w a len l) (hi : ∀ q ∈ l, AtomT.Ok q) :
    Calls Tryz.prog 97 #[.slice a len cap] w fun e w' => RetB e (l.length ≤ 50 ∧ AllA l l.length) ∧ Below w.heap.size w w' := by
  have qa := hide (allGood_any a len cap l w hl hs hi)
  have hlen := hide hs.1
  clear hs hi
  by_cases h : (len : Int) ≤ 50
  · go_enter Tryz.func97, Tryz.ntmps97
    go_wp2_with fail
    refine (unhide qa).mono ?_
    rintro e w5 ⟨⟨b, rfl, hb⟩, hb5⟩
    have HB := hide hb
    clear hb
    go_wp2_with fail
    go_ret
    refine ⟨retB ?_, hb5⟩
    rw [unhide HB, ← unhide hlen]
    exact ⟨fun h' => ⟨by omega, h'⟩, fun h' => h'.2⟩
  · have d : decide ((len : Int) ≤ 50) = false := by simpa using h
    go_enter Tryz.func97, Tryz.ntmps97
    go_wp2_with fail
    go_ret
    refine ⟨retB (b := false) ?_, Below.refl _ _⟩
    rw [← unhide hlen]
    exact ⟨fun h' => (by cases h'), fun h' => absurd h'.1 (by omega)⟩
set_option maxHeartbeats 1000000 in
theorem risingA_any (a : Option Addr) (len cap : Nat) (l : List AtomT) (w : World) (hl : len ≤ 50) (hs : SlA w a len l) (hi : ∀ q ∈ l, AtomT.Ok q) (hg : AllA l l.length) :
    Calls Tryz.prog 98 #[.slice a len cap, .func (.func 99) #[] #[]] w fun e w' => RetB e (RisA l l.length) ∧ Below w.heap.size w w' := by
  have HS := hide hs
  have HG := hide hg
  clear hs hg
  go_enter Tryz.func98, Tryz.ntmps98
  go_wp2
  go_loopw [5] (fun i w' => ∃ k : Nat, 1 ≤ k ∧ (k ≤ len ∨ k = 1) ∧ i = .int .i64 k ∧ Hid (Below w.heap.size w w') ∧ Hid (RisA l k)) (fun i _ => len - (intOf i).toNat)
  case atStart => exact ⟨1, Nat.le_refl _, .inr rfl, rfl, hide (Below.refl _ _), hide (fun i _ h h' => absurd h (by omega))⟩
  case round =>
    obtain ⟨k, hk1, hk, rfl, hb, hris⟩ := hrel
    by_cases hlt : k < len
    · obtain ⟨j, rfl⟩ : ∃ j, k = j + 1 := ⟨k - 1, by omega⟩
      have hk' : j + 1 < l.length := by rw [← (unhide HS).1]; exact hlt
      obtain ⟨b, off, rfl, hrow⟩ := ((unhide HS).keep (unhide hb)).at hlt
      have pk := hrow.c (j + 1) hk'
      have pj := hrow.c j (by omega)
      have zk := hrow.z
      have qc := hide (fun w => AtomT.iCmp l[j] l[j + 1] (hi _ (List.getElem_mem _)) (hi _ (List.getElem_mem _)) (unhide HG j (by omega) (by omega)) (unhide HG (j + 1) hk' hk') w)
      have stepR := hide (fun g : l[j].cmp l[j + 1] < 0 => (unhide hris).step hk' (fun _ => g))
      have noR := hide (fun (g : ¬ l[j].cmp l[j + 1] < 0) (h : RisA l l.length) => g (h (j + 1) hk' (by omega) hk'))
      clear hrow
      generalize l[j + 1] = P at *
      generalize l[j] = Q at *
      have ne : Nonempty (Kept wr) := ⟨⟨wr, Below.refl _ _⟩⟩
      have x0 := kept_cell zk pk.c0
      have x1 := kept_cell zk pk.c1
      have x2 := kept_cell zk pk.c2
      have x3 := kept_cell zk pk.c3
      have t0 := kept_cell zk pj.c0
      have t1 := kept_cell zk pj.c1
      have t2 := kept_cell zk pj.c2
      have t3 := kept_cell zk pj.c3
      have ej : IntKind.i64.wrap ((j : Int) + 1 - 1) = (j : Int) := by rw [IntKind.wrap_i64]; omega
      have i0 : (0 : Int) ≤ (j : Int) := by omega
      have i1 : (j : Int) < (len : Int) := by omega
      have i2 : (j : Int) + 1 < (len : Int) := by omega
      clear pk pj
      by_cases hc : Q.cmp P < 0
      · have dc : decide (0 ≤ Q.cmp P) = false := by simp; omega
        replace stepR := hide (unhide stepR hc)
        clear hc
        go_wp2_with fail
        refine wp_region_kept (by kernel_rfl) (by kernel_rfl) ?_
        repeat (first
          | go_big_quiet_step ((go_at_call 99; exact kept_call (unhide qc _)))
          | quiet_step ((go_at_call 99; exact kept_call (unhide qc _))))
        refine wpQuiet_nil ?_
        rintro _ ⟨q, rfl⟩
        go_wp2_with fail
        exact ⟨⟨j + 1 + 1, by omega, by omega, by go_num, hide (bTr (unhide hb) q.h), stepR⟩, by simp [intOf]; omega⟩
      · have dc : decide (0 ≤ Q.cmp P) = true := by simp; omega
        replace noR := hide (unhide noR hc)
        clear hc
        go_wp2_with fail
        refine wp_region_kept (by kernel_rfl) (by kernel_rfl) ?_
        repeat (first
          | go_big_quiet_step ((go_at_call 99; exact kept_call (unhide qc _)))
          | quiet_step ((go_at_call 99; exact kept_call (unhide qc _))))
        refine wpQuiet_nil ?_
        rintro _ ⟨q, rfl⟩
        go_wp2_with fail
        go_ret
        exact ⟨retB (b := false) ⟨fun h => (by cases h), fun h => absurd h (unhide noR)⟩, bTr (unhide hb) q.h⟩
    · have hR : Hid (RisA l l.length) := hide (fun i h h0 h1 => by
        have hl' := (unhide HS).1
        exact unhide hris i h h0 (by omega))
      go_wp2_with fail
      go_ret
      exact ⟨retB (b := true) ⟨fun _ => unhide hR, fun _ => rfl⟩, unhide hb⟩

theorem compareBytes_eq : ∀ a b : List UInt8, Lib.compareBytes a b = cmpT a b
  | [], [] => rfl
  | [], _ :: _ => rfl
  | _ :: _, [] => rfl
  | a :: x, b :: y => by
    unfold Lib.compareBytes cmpT
    by_cases e : a = b
    · subst e
      rw [if_neg (by simp), if_neg (by simp), if_pos rfl]
      exact compareBytes_eq x y
    · rw [if_neg e]
      unfold cmpN
      by_cases l : a < b
      · have l' : (a.toNat : Int) < (b.toNat : Int) := by have := UInt8.lt_iff_toNat_lt.1 l; omega
        rw [if_pos l, if_pos l']
      · have l' : ¬ (a.toNat : Int) < (b.toNat : Int) := fun h => l (UInt8.lt_iff_toNat_lt.2 (by omega))
        have l2 : (b.toNat : Int) < (a.toNat : Int) := by
          have : ¬ (a.toNat : Int) = (b.toNat : Int) := fun h => e (u8_eq h)
          omega
        rw [if_neg l, if_pos (UInt8.lt_iff_toNat_lt.2 (by omega)), if_neg l', if_pos l2]

theorem cmpstring_run (a b : ByteArray) (w : World) : (callFunc 133 #[.string a, .string b]).run Tryz.prog w = .ok (.value (.int .i64 (cmpT a.data.toList b.data.toList))) w := by
  rw [run_callFunc_extern (e := Extern.BytealgCompare.compare) Tryz.func133 (by kernel_rfl) (by kernel_rfl) (by kernel_rfl) (by kernel_rfl), Lib.run_compareString, compareBytes_eq]
  rfl

theorem stringsCompare_any (a b : ByteArray) (w : World) : Calls Tryz.prog 101 #[.string a, .string b] w fun e w' => e = .returned (.int .i64 (cmpT a.data.toList b.data.toList)) ∧ w = w' := by
  have hr := cmpstring_run a b w
  go_enter Tryz.func101, Tryz.ntmps101
  go_wp2
  go_ret
  exact ⟨rfl, rfl⟩
end Go.Proofs.YtdflnjjomljgmaaGreatDoor.V
