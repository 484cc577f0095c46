/- WVal, QQuo, one behind the other. -/
import Derived.Test.YthemcakenammdaaGreatDoorJ19
import Derived.Test.YthemcakenammdaaGreatDoorJ11
import Derived.Maps.AppendAt
/- WVal, ported from seat 1a. -/
namespace Go.Proofs.YthemcakenammdaaGreatDoor.V
open Go.RowKit

set_option maxHeartbeats 1000000 in
theorem iGoodValue_1 (A : AtomT) (items : List AtomT) (names : List ByteArray) (hv : A.Ok) (a1 a2 : Option Addr) (l1 c1 l2 c2 : Nat) (w : World) (e1 : l1 = items.length) (e2 : l2 = names.length) :
    Calls Tryz.prog 43 #[.agg #[.int .i64 1, .int .i64 A.x, .int .i64 A.n, .string A.t, .string A.y, .slice a1 l1 c1, .slice a2 l2 c2]] w
      fun e w' => RetB e (GoodVal ⟨1, A, items, names⟩) ∧ Below w.heap.size w w' := by
  have hg : GoodVal ⟨1, A, items, names⟩ ↔ (A.good = true ∧ ((l1 : Int) == 0) = true ∧ ((l2 : Int) == 0) = true) := by
    rw [len_zero_iff e1, len_zero_iff e2]; exact goodVal_1 A items names
  have hq := hide (fun w => AtomT.iGood A hv w)
  have HG := hide hg
  clear hg e1 e2 hv
  cases g0 : A.good
  · rw [g0] at hq HG
    clear g0
    go_enter Tryz.func43, Tryz.ntmps43
    go_wp2_with fail
    refine (unhide hq _).mono ?_
    rintro e w1 ⟨rfl, hb1⟩
    go_wp2_with fail
    go_ret
    exact ⟨retB (b := false) (by rw [unhide HG]; simp), bTr (bAl (Below.refl _ _) _) hb1⟩
  · rw [g0] at hq HG
    clear g0
    cases g1 : ((l1 : Int) == 0) <;> cases g2 : ((l2 : Int) == 0)
    all_goals
      go_enter Tryz.func43, Tryz.ntmps43
      go_wp2_with fail
      refine (unhide hq _).mono ?_
      rintro e w1 ⟨rfl, hb1⟩
      obtain ⟨_, _, _, _, _, d5, d6, _⟩ := (ValAt.new w ⟨1, A, items, names⟩ (.slice a1 l1 c1) (.slice a2 l2 c2) 33).keep hb1
      go_wp2_with fail
      go_ret
      exact ⟨retB (by rw [unhide HG, g1, g2]; simp), bTr (bAl (Below.refl _ _) _) hb1⟩

theorem iGoodValue_else (v : ValT) (a1 a2 : Option Addr) (l1 c1 l2 c2 : Nat) (w : World) (h1 : ¬ v.k = 1) (h2 : ¬ v.k = 2) (h3 : ¬ v.k = 3) :
    Calls Tryz.prog 43 #[.agg #[.int .i64 v.k, .int .i64 v.a.x, .int .i64 v.a.n, .string v.a.t, .string v.a.y, .slice a1 l1 c1, .slice a2 l2 c2]] w
      fun e w' => RetB e (GoodVal v) ∧ Below w.heap.size w w' := by
  have hg : ¬ GoodVal v := by
    unfold GoodVal
    rintro (h | h | h)
    · exact h1 h.1
    · exact h2 h.1
    · exact h3 h.1
  have HG := hide hg
  have t1 : (v.k == 1) = false := by simpa using h1
  have t2 : (v.k == 2) = false := by simpa using h2
  have t3 : (v.k == 3) = false := by simpa using h3
  clear h1 h2 h3 hg
  go_enter Tryz.func43, Tryz.ntmps43
  go_wp2_with fail
  go_ret
  exact ⟨retB (b := false) (by simp [unhide HG]), bAl (Below.refl _ _) _⟩

set_option maxHeartbeats 1000000 in
theorem iGoodValue_odd (k : Int) (A : AtomT) (items : List AtomT) (names : List ByteArray) (hk : k = 2 ∨ k = 3) (hz : ¬ zeroA A) (a1 a2 : Option Addr) (l1 c1 l2 c2 : Nat) (w : World) :
    Calls Tryz.prog 43 #[.agg #[.int .i64 k, .int .i64 A.x, .int .i64 A.n, .string A.t, .string A.y, .slice a1 l1 c1, .slice a2 l2 c2]] w
      fun e w' => RetB e (GoodVal ⟨k, A, items, names⟩) ∧ Below w.heap.size w w' := by
  have hg : ¬ GoodVal ⟨k, A, items, names⟩ := by
    rcases hk with rfl | rfl
    · rw [goodVal_2]; exact fun h => hz h.1
    · rw [goodVal_3]; exact fun h => hz h.1
  have HG := hide hg
  have HZ := hide hz
  clear hg hz
  rcases hk with rfl | rfl
  all_goals
    go_enter Tryz.func43, Tryz.ntmps43
    go_wp2_with fail
    all_goals first
      | exact absurd ⟨‹_›, ‹_›, ‹_›, ‹_›⟩ (unhide HZ)
      | (go_ret; exact ⟨retB (b := false) (by simp [unhide HG]), bAl (Below.refl _ _) _⟩)

theorem zeroA_zero : zeroA ⟨0, 0, ⟨#[]⟩, ⟨#[]⟩⟩ := ⟨rfl, rfl, by rw [ByteArray.toList_eq], by rw [ByteArray.toList_eq]⟩

set_option maxHeartbeats 1000000 in
theorem iGoodValue_2 (items : List AtomT) (names : List ByteArray) (hi : ∀ q ∈ items, AtomT.Ok q) (a1 a2 : Option Addr) (l1 c1 l2 c2 : Nat) (w : World) (hl : l1 ≤ maxLen) (hs : SlA w a1 l1 items) (e2 : l2 = names.length) :
    Calls Tryz.prog 43 #[.agg #[.int .i64 2, .int .i64 0, .int .i64 0, .string ⟨#[]⟩, .string ⟨#[]⟩, .slice a1 l1 c1, .slice a2 l2 c2]] w
      fun e w' => RetB e (GoodVal ⟨2, ⟨0, 0, ⟨#[]⟩, ⟨#[]⟩⟩, items, names⟩) ∧ Below w.heap.size w w' := by
  have hg : GoodVal ⟨2, ⟨0, 0, ⟨#[]⟩, ⟨#[]⟩⟩, items, names⟩ ↔ ((items.length ≤ 50 ∧ AllA items items.length ∧ RisA items items.length) ∧ ((l2 : Int) == 0) = true) := by
    rw [len_zero_iff e2, goodVal_2]
    exact ⟨fun h => ⟨⟨h.2.1, h.2.2.1, h.2.2.2.1⟩, h.2.2.2.2⟩, fun h => ⟨zeroA_zero, h.1.1, h.1.2.1, h.1.2.2, h.2⟩⟩
  have hq := hide (fun w (hs : SlA w a1 l1 items) => goodSet_any a1 l1 c1 items w hl hs hi)
  have HG := hide hg
  have HS := hide hs
  clear hg hs hi e2
  go_enter Tryz.func43, Tryz.ntmps43
  go_wp2_with fail
  refine (unhide hq _ ((unhide HS).keep (bAl (Below.refl _ _) _))).mono ?_
  rintro e w1 ⟨⟨b, rfl, hb⟩, hb1⟩
  have HB := hide hb
  clear hb
  obtain ⟨_, _, _, _, _, d5, d6, _⟩ := (ValAt.new w ⟨2, ⟨0, 0, ⟨#[]⟩, ⟨#[]⟩⟩, items, names⟩ (.slice a1 l1 c1) (.slice a2 l2 c2) 33).keep hb1
  cases b
  · go_wp2_with fail
    go_ret
    exact ⟨retB (b := false) (by rw [unhide HG, ← unhide HB]; simp), bTr (bAl (Below.refl _ _) _) hb1⟩
  · go_wp2_with fail
    go_ret
    exact ⟨retB (by rw [unhide HG, ← unhide HB]; simp), bTr (bAl (Below.refl _ _) _) hb1⟩

set_option maxHeartbeats 1000000 in
theorem iGoodValue_3 (items : List AtomT) (names : List ByteArray) (hi : ∀ q ∈ items, AtomT.Ok q) (hn : ∀ q ∈ names, ByteArray.size q ≤ maxLen) (a1 a2 : Option Addr) (l1 c1 l2 c2 : Nat) (w : World) (hl : l1 ≤ maxLen) (hs : SlA w a1 l1 items) (hs2 : SlS w a2 l2 names) :
    Calls Tryz.prog 43 #[.agg #[.int .i64 3, .int .i64 0, .int .i64 0, .string ⟨#[]⟩, .string ⟨#[]⟩, .slice a1 l1 c1, .slice a2 l2 c2]] w
      fun e w' => RetB e (GoodVal ⟨3, ⟨0, 0, ⟨#[]⟩, ⟨#[]⟩⟩, items, names⟩) ∧ Below w.heap.size w w' := by
  have hg : GoodVal ⟨3, ⟨0, 0, ⟨#[]⟩, ⟨#[]⟩⟩, items, names⟩ ↔ (names.length = items.length ∧ (items.length ≤ 50 ∧ AllA items items.length) ∧ AllN names names.length ∧ RisN names names.length) := by
    rw [goodVal_3]
    exact ⟨fun h => ⟨h.2.2.2.1, ⟨h.2.1, h.2.2.1⟩, h.2.2.2.2⟩, fun h => ⟨zeroA_zero, h.2.1.1, h.2.1.2, h.1, h.2.2⟩⟩
  have hq := hide (fun w (hs : SlA w a1 l1 items) (hs2 : SlS w a2 l2 names) => goodRecord_any a1 a2 l1 c1 l2 c2 items names w hl hs hs2 hi hn)
  have HG := hide hg
  have HS := hide hs
  have HS2 := hide hs2
  clear hg hs hi hs2 hn
  go_enter Tryz.func43, Tryz.ntmps43
  go_wp2_with fail
  refine (unhide hq _ ((unhide HS).keep (bAl (Below.refl _ _) _)) ((unhide HS2).keep (bAl (Below.refl _ _) _))).mono ?_
  rintro e w1 ⟨⟨b, rfl, hb⟩, hb1⟩
  have HB := hide hb
  clear hb
  go_wp2_with fail
  go_ret
  exact ⟨retB (by rw [unhide HG]; exact unhide HB), bTr (bAl (Below.refl _ _) _) hb1⟩

theorem sGoodValue_any (v : ValT) (hv : v.Ok) (a1 a2 : Option Addr) (l1 c1 l2 c2 : Nat) (w : World) (hs : SlA w a1 l1 v.items) (hs2 : SlS w a2 l2 v.names) :
    Calls Tryz.prog 37 #[.agg #[.int .i64 v.k, .int .i64 v.a.x, .int .i64 v.a.n, .string v.a.t, .string v.a.y, .slice a1 l1 c1, .slice a2 l2 c2]] w
      fun e w' => RetB e (GoodVal v) ∧ Below w.heap.size w w' := by
  obtain ⟨k, A, items, names⟩ := v
  by_cases h1 : k = 1
  · subst h1; exact sGoodValue_1 A items names hv.a a1 a2 l1 c1 l2 c2 w hs.1 hs2.1
  by_cases h23 : k = 2 ∨ k = 3
  · by_cases hz : zeroA A
    · obtain rfl := zeroA_eq hz
      rcases h23 with rfl | rfl
      · exact sGoodValue_2 items names hv.items a1 a2 l1 c1 l2 c2 w hs hs2.1
      · exact sGoodValue_3 items names hv.items hv.names a1 a2 l1 c1 l2 c2 w hs hs2
    · exact sGoodValue_odd k A items names h23 hz a1 a2 l1 c1 l2 c2 w
  · exact sGoodValue_else ⟨k, A, items, names⟩ a1 a2 l1 c1 l2 c2 w h1 (fun h => h23 (.inl h)) (fun h => h23 (.inr h))

theorem iGoodValue_any (v : ValT) (hv : v.Ok) (a1 a2 : Option Addr) (l1 c1 l2 c2 : Nat) (w : World) (hl : l1 ≤ maxLen) (hs : SlA w a1 l1 v.items) (hs2 : SlS w a2 l2 v.names) :
    Calls Tryz.prog 43 #[.agg #[.int .i64 v.k, .int .i64 v.a.x, .int .i64 v.a.n, .string v.a.t, .string v.a.y, .slice a1 l1 c1, .slice a2 l2 c2]] w
      fun e w' => RetB e (GoodVal v) ∧ Below w.heap.size w w' := by
  obtain ⟨k, A, items, names⟩ := v
  by_cases h1 : k = 1
  · subst h1; exact iGoodValue_1 A items names hv.a a1 a2 l1 c1 l2 c2 w hs.1 hs2.1
  by_cases h23 : k = 2 ∨ k = 3
  · by_cases hz : zeroA A
    · obtain rfl := zeroA_eq hz
      rcases h23 with rfl | rfl
      · exact iGoodValue_2 items names hv.items a1 a2 l1 c1 l2 c2 w hl hs hs2.1
      · exact iGoodValue_3 items names hv.items hv.names a1 a2 l1 c1 l2 c2 w hl hs hs2
    · exact iGoodValue_odd k A items names h23 hz a1 a2 l1 c1 l2 c2 w
  · exact iGoodValue_else ⟨k, A, items, names⟩ a1 a2 l1 c1 l2 c2 w h1 (fun h => h23 (.inl h)) (fun h => h23 (.inr h))
end Go.Proofs.YthemcakenammdaaGreatDoor.V
/- spec.l1Num; quoted texts: spec.l1Quoted, impl.quotedText. -/
namespace Go.Proofs.YthemcakenammdaaGreatDoor
open Go.RowKit

set_option maxHeartbeats 400000 in
theorem l1Num_any (n : Int) (w : World) (h0 : -9223372036854775808 ≤ n) (h1 : n ≤ 9223372036854775807) :
    Calls Tryz.prog 60 #[.int .i64 n] w fun e w' => e = .returned (.string ⟨(Lib.itoa n).toArray⟩) ∧ Below w.heap.size w w' := by
  have q := hide (fun w => l1Size_any n w h0 h1)
  have hlen := Lib.itoa_length_le n h0 h1
  by_cases hn : n < 0
  · have e1 : Lib.itoa n = 45 :: Lib.decDigits n.natAbs := by unfold Lib.itoa; rw [if_pos hn]
    rw [e1] at hlen ⊢
    have ap := hide (app_one 45 (Lib.decDigits n.natAbs))
    have hz : (⟨(Lib.decDigits n.natAbs).toArray⟩ : ByteArray).size ≤ 21 := by show (Lib.decDigits n.natAbs).toArray.size ≤ _; simp at hlen ⊢; omega
    rw [← unhide ap]
    generalize (⟨(Lib.decDigits n.natAbs).toArray⟩ : ByteArray) = X at q hz
    have q1 : ¬ 9223372036854775806 < X.size := by omega
    have q2 : X.size ≤ 9223372036854775806 := by omega
    have q3 : ¬ 9223372036854775807 < 1 + X.size := by omega
    have q4 : 1 + X.size ≤ 9223372036854775807 := by omega
    clear ap e1 hlen
    go_enter Tryz.func60, Tryz.ntmps60
    go_wp2_with fail
    refine (unhide q _).mono ?_
    rintro e w1 ⟨rfl, hb⟩
    go_wp2_with fail
    go_ret
    exact ⟨rfl, hb⟩
  · have e1 : Lib.itoa n = Lib.decDigits n.natAbs := by unfold Lib.itoa; rw [if_neg hn]; congr 1; omega
    rw [e1]
    generalize (⟨(Lib.decDigits n.natAbs).toArray⟩ : ByteArray) = X at q
    clear hlen e1
    go_enter Tryz.func60, Tryz.ntmps60
    go_wp2_with fail
    refine (unhide q _).mono ?_
    rintro e w1 ⟨rfl, hb⟩
    go_wp2_with fail
    go_ret
    exact ⟨rfl, hb⟩

/-- A byte within quotes. -/
def qb (c : UInt8) : List UInt8 := if c = 34 ∨ c = 92 then [92, c] else [c]
def qs (t : List UInt8) : List UInt8 := t.flatMap qb
def quo (t : List UInt8) : List UInt8 := 34 :: (qs t ++ [34])
theorem qs_snoc (t : List UInt8) (c : UInt8) : qs (t ++ [c]) = qs t ++ qb c := by simp [qs]
theorem own_snocU {w' : World} {base : Nat} {v' : Value} {pre : List UInt8} {c : UInt8} (h : w'.ownsRow base 5 1 v' (pre.length + 1) (pre.map byteV ++ [byteV c])) : w'.ownsRow base 5 1 v' (pre ++ [c]).length ((pre ++ [c]).map byteV) := by
  simpa using h
theorem take_at (s : ByteArray) (k : Nat) (h : k < s.size) : s.data.toList.take (k + 1) = s.data.toList.take k ++ [s[k]] := by
  rw [List.take_succ_eq_append_getElem (by simpa using h)]; rfl
theorem info_u8 : (Tryz.prog.info? 5).map (fun i => (i.zero, i.size, i.bytes)) = some (some (.int .u8 0), 1, 1) := by kernel_rfl
theorem u8_is {c : UInt8} {n : Nat} (hn : n < 256) : ((c.toNat : Int) == (n : Int)) = decide (c = UInt8.ofNat n) := by
  rw [Bool.eq_iff_iff]
  simp only [beq_iff_eq, decide_eq_true_eq]
  constructor
  · intro h
    apply UInt8.toNat_inj.1
    rw [UInt8.toNat_ofNat']
    omega
  · intro h
    rw [h, UInt8.toNat_ofNat']
    omega

set_option maxRecDepth 8000 in
set_option maxHeartbeats 2000000 in
theorem l1Quoted_any (s : ByteArray) (w : World) (hs : s.size ≤ 200) :
    Calls Tryz.prog 61 #[.string s] w fun e w' => e = .returned (.string ⟨(quo s.data.toList).toArray⟩) ∧ Below w.heap.size w w' := by
  obtain ⟨i0, hi, hz0, hz1, hz2⟩ := info_parts info_u8
  have O0 := hide (own_new w 34)
  go_enter Tryz.func61, Tryz.ntmps61
  go_wp2_with fail
  go_loopw [3, 4] (fun v i w' => ∃ (k : Nat) (pre : List UInt8), k ≤ s.size ∧ pre.length ≤ 2 * k + 1 ∧ i = .int .i64 k ∧ Hid (w'.ownsRow w.heap.size 5 1 v pre.length (pre.map byteV)) ∧ Hid (Below w.heap.size w w') ∧ Hid (pre = 34 :: qs (s.data.toList.take k))) (fun _ i _ => s.size - (intOf i).toNat)
  case atStart => exact ⟨0, [34], Nat.zero_le _, by simp, rfl, O0, hide (bAl (Below.refl _ _) _), hide rfl⟩
  case round =>
    obtain ⟨k, pre, hk, hpre, rfl, hown, hb, hl⟩ := hrel
    by_cases hlt : k < s.size
    · have ed := hide (take_at s k hlt)
      obtain ⟨c, hc⟩ : ∃ c, s[k] = c := ⟨_, rfl⟩
      rw [hc] at ed
      have e34 : ((c.toNat : Int) == 34) = decide (c = 34) := u8_is (n := 34) (by decide)
      have e92 : ((c.toNat : Int) == 92) = decide (c = 92) := u8_is (n := 92) (by decide)
      by_cases hq : c = 34 ∨ c = 92
      · have st := hide (show pre ++ [92] ++ [c] = 34 :: qs (s.data.toList.take (k + 1)) by
          rw [unhide ed, qs_snoc, unhide hl, qb, if_pos hq]; simp)
        by_cases h34 : c = 34
        · rw [decide_eq_true h34] at e34
          clear hq h34 e92
          go_wp2_with (first
            | (at_builtin; refine wpList_append_own_at _ rfl _ _ 44 rfl w.heap.size 5 i0 (.int .u8 0) 1 1 Tryz.underlying44 hi hz0 hz1 hz2 rfl (by decide) _ _ _ rfl ((unhide hown).alloc _) ⟨_, 0, none⟩ 1 1 [byteV 92] rfl rfl (cell_one_new _ _ _) (fun x hx => by simp at hx; subst hx; rfl) (by unfold maxLen; omega) (by omega) (by have := (unhide hb).size; simp; omega) ?_; intro v2 w2 hown1 hgrow1 _ hat1; have own2 := hide (own_snocU hown1); have b2 := hide ((bAl (unhide hb) _).grown hgrow1 (by have := (unhide hb).size; simp; omega) (fun j hj => ((unhide hown).lt j hj).1)); clear hown1 hgrow1 hat1)
            | (at_builtin; refine wpList_append_own_at _ rfl _ _ 44 rfl w.heap.size 5 i0 (.int .u8 0) 1 1 Tryz.underlying44 hi hz0 hz1 hz2 rfl (by decide) _ _ _ rfl ((unhide own2).alloc _) ⟨_, 0, none⟩ 1 1 [byteV c] rfl rfl (cell_one_new _ _ _) (fun x hx => by simp at hx; subst hx; rfl) (by simp; unfold maxLen; omega) (by simp; omega) (by have := (unhide b2).size; simp; omega) ?_; intro v3 w3 hown3 hgrow3 _ hat3))
          exact ⟨⟨k + 1, pre ++ [92] ++ [c], by omega, by simp; omega, by go_num, hide (own_snocU hown3), hide ((bAl (unhide b2) _).grown hgrow3 (by have := (unhide b2).size; simp; omega) (fun j hj => ((unhide own2).lt j hj).1)), st⟩, by simp [intOf]; omega⟩
        · rw [decide_eq_false h34] at e34
          rw [decide_eq_true (hq.resolve_left h34)] at e92
          clear hq h34
          go_wp2_with (first
            | (at_builtin; refine wpList_append_own_at _ rfl _ _ 44 rfl w.heap.size 5 i0 (.int .u8 0) 1 1 Tryz.underlying44 hi hz0 hz1 hz2 rfl (by decide) _ _ _ rfl ((unhide hown).alloc _) ⟨_, 0, none⟩ 1 1 [byteV 92] rfl rfl (cell_one_new _ _ _) (fun x hx => by simp at hx; subst hx; rfl) (by unfold maxLen; omega) (by omega) (by have := (unhide hb).size; simp; omega) ?_; intro v2 w2 hown1 hgrow1 _ hat1; have own2 := hide (own_snocU hown1); have b2 := hide ((bAl (unhide hb) _).grown hgrow1 (by have := (unhide hb).size; simp; omega) (fun j hj => ((unhide hown).lt j hj).1)); clear hown1 hgrow1 hat1)
            | (at_builtin; refine wpList_append_own_at _ rfl _ _ 44 rfl w.heap.size 5 i0 (.int .u8 0) 1 1 Tryz.underlying44 hi hz0 hz1 hz2 rfl (by decide) _ _ _ rfl ((unhide own2).alloc _) ⟨_, 0, none⟩ 1 1 [byteV c] rfl rfl (cell_one_new _ _ _) (fun x hx => by simp at hx; subst hx; rfl) (by simp; unfold maxLen; omega) (by simp; omega) (by have := (unhide b2).size; simp; omega) ?_; intro v3 w3 hown3 hgrow3 _ hat3))
          exact ⟨⟨k + 1, pre ++ [92] ++ [c], by omega, by simp; omega, by go_num, hide (own_snocU hown3), hide ((bAl (unhide b2) _).grown hgrow3 (by have := (unhide b2).size; simp; omega) (fun j hj => ((unhide own2).lt j hj).1)), st⟩, by simp [intOf]; omega⟩
      · have st := hide (show pre ++ [c] = 34 :: qs (s.data.toList.take (k + 1)) by
          rw [unhide ed, qs_snoc, unhide hl, qb, if_neg hq]; simp)
        rw [decide_eq_false (fun h => hq (.inl h))] at e34
        rw [decide_eq_false (fun h => hq (.inr h))] at e92
        clear hq
        go_wp2_with (at_builtin; refine wpList_append_own_at _ rfl _ _ 44 rfl w.heap.size 5 i0 (.int .u8 0) 1 1 Tryz.underlying44 hi hz0 hz1 hz2 rfl (by decide) _ _ _ rfl ((unhide hown).alloc _) ⟨_, 0, none⟩ 1 1 [byteV c] rfl rfl (cell_one_new _ _ _) (fun x hx => by simp at hx; subst hx; rfl) (by unfold maxLen; omega) (by omega) (by have := (unhide hb).size; simp; omega) ?_; intro v3 w3 hown3 hgrow3 _ hat3)
        exact ⟨⟨k + 1, pre ++ [c], by omega, by simp; omega, by go_num, hide (own_snocU hown3), hide ((bAl (unhide hb) _).grown hgrow3 (by have := (unhide hb).size; simp; omega) (fun j hj => ((unhide hown).lt j hj).1)), st⟩, by simp [intOf]; omega⟩
    · have e : k = s.size := by omega
      have st := hide (show pre ++ [34] = quo s.data.toList by
        rw [unhide hl, e, List.take_of_length_le (by simp)]; rfl)
      go_wp2_with (at_builtin; refine wpList_append_own_at _ rfl _ _ 44 rfl w.heap.size 5 i0 (.int .u8 0) 1 1 Tryz.underlying44 hi hz0 hz1 hz2 rfl (by decide) _ _ _ rfl ((unhide hown).alloc _) ⟨_, 0, none⟩ 1 1 [byteV 34] rfl rfl (cell_one_new _ _ _) (fun x hx => by simp at hx; subst hx; rfl) (by unfold maxLen; omega) (by omega) (by have := (unhide hb).size; simp; omega) ?_; intro v3 w3 hown3 hgrow3 _ hat3; have cv := conv_own (own_snocU hown3))
      have b3 := hide ((bAl (unhide hb) _).grown hgrow3 (by have := (unhide hb).size; simp; omega) (fun j hj => ((unhide hown).lt j hj).1))
      go_ret
      exact ⟨by rw [← unhide st]; rfl, unhide b3⟩

theorem cells_grown {w w' : World} {o : Obj} {B : Nat} {s : ByteArray} {row : Option Nat} (h : ∀ j (h : j < s.size), w.cell? ⟨B, j, none⟩ = some (.int .u8 (s[j].toNat : Int))) (hg : (w.alloc o).grownBy w' row) (hne : row ≠ some B) :
    ∀ j (h : j < s.size), w'.cell? ⟨B, j, none⟩ = some (.int .u8 (s[j].toNat : Int)) := fun j hj => by
  have z : B < w.heap.size := World.block_lt_of_cell? w ⟨B, j, none⟩ (h j hj)
  rw [World.cell?_of_block (a := ⟨B, j, none⟩) (hg.block B (by simp; omega) (fun e => hne e.symm)), (bAl (Below.refl w.heap.size w) o).cell (p := ⟨B, j, none⟩) z]
  exact h j hj
theorem nb_grown {w : World} {o : Obj} {B : Nat} {v v' : Value} (h : v.ownBlock ≠ some B) (hat : v'.ownBlock = v.ownBlock ∨ v'.ownBlock = some (w.alloc o).heap.size) (hz : B < w.heap.size) : v'.ownBlock ≠ some B := by
  rcases hat with e | e
  · rw [e]; exact h
  · rw [e]; intro h; simp at h; omega
theorem own_keepT {w w' : World} {base n e size : Nat} {v : Value} {xs : List Value} (h : w.ownsRow base e size v n xs) (hb : Below w.heap.size w w') : w'.ownsRow base e size v n xs := by
  refine ⟨h.1, h.2.imp_right ?_⟩
  rintro ⟨g, cap, cur, e', h1, hh, r⟩
  have hl : g < w.heap.size := (Array.getElem?_eq_some_iff.1 hh).1
  exact ⟨g, cap, cur, e', h1, by rw [hb.block g hl]; exact hh, r⟩

set_option maxRecDepth 8000 in
set_option maxHeartbeats 2000000 in
theorem quotedText_any (s : ByteArray) (w : World) (hs : s.size ≤ 200) :
    Calls Tryz.prog 70 #[.string s] w fun e w' => e = .returned (.string ⟨(quo s.data.toList).toArray⟩) ∧ Below w.heap.size w w' := by
  obtain ⟨i0, hi, hz0, hz1, hz2⟩ := info_parts info_u8
  have O0 := hide (own_new w 34)
  obtain ⟨cap, w1, hrun, hbel, hcell⟩ := conv_bytes s (w.alloc (.cells #[.int .u8 34] 5))
  have O1 := hide (own_keepT (unhide O0) hbel)
  have B1 := hide (bTr (bAl (Below.refl w.heap.size w) (.cells #[.int .u8 34] 5)) hbel)
  rw [World.size_alloc] at hcell
  have HC := hide hcell
  clear hcell hbel O0
  go_enter Tryz.func70, Tryz.ntmps70
  go_wp2_with fail
  go_loopw [3, 10] (fun v i w' => ∃ (k : Nat) (pre : List UInt8), k ≤ s.size ∧ pre.length ≤ 2 * k + 1 ∧ i = .int .i64 k ∧ Hid (w'.ownsRow w.heap.size 5 1 v pre.length (pre.map byteV)) ∧ Hid (Below w.heap.size w w') ∧ Hid (pre = 34 :: qs (s.data.toList.take k)) ∧ Hid (∀ j (h : j < s.size), w'.cell? ⟨w.heap.size + 1, j, none⟩ = some (.int .u8 (s[j].toNat : Int))) ∧ Hid (v.ownBlock ≠ some (w.heap.size + 1))) (fun _ i _ => s.size - (intOf i).toNat)
  case atStart => exact ⟨0, [34], Nat.zero_le _, by simp, rfl, O1, B1, hide rfl, HC, hide (by intro h; simp [Value.ownBlock] at h)⟩
  case round =>
    obtain ⟨k, pre, hk, hpre, rfl, hown, hb, hl, hK, hnB⟩ := hrel
    by_cases hlt : k < s.size
    · have ed := hide (take_at s k hlt)
      have ck := unhide hK k hlt
      have zB := hide (World.block_lt_of_cell? wr ⟨w.heap.size + 1, k, none⟩ ck)
      obtain ⟨c, hc⟩ : ∃ c, s[k] = c := ⟨_, rfl⟩
      rw [hc] at ed ck
      have e34 : ((c.toNat : Int) == 34) = decide (c = 34) := u8_is (n := 34) (by decide)
      have e92 : ((c.toNat : Int) == 92) = decide (c = 92) := u8_is (n := 92) (by decide)
      by_cases hq : c = 34 ∨ c = 92
      · have st := hide (show pre ++ [92] ++ [c] = 34 :: qs (s.data.toList.take (k + 1)) by
          rw [unhide ed, qs_snoc, unhide hl, qb, if_pos hq]; simp)
        by_cases h34 : c = 34
        · rw [decide_eq_true h34] at e34
          clear hq h34 e92
          go_wp2_with (first
            | (at_builtin; refine wpList_append_own_at _ rfl _ _ 44 rfl w.heap.size 5 i0 (.int .u8 0) 1 1 Tryz.underlying44 hi hz0 hz1 hz2 rfl (by decide) _ _ _ rfl ((unhide hown).alloc _) ⟨_, 0, none⟩ 1 1 [byteV 92] rfl rfl (cell_one_new _ _ _) (fun x hx => by simp at hx; subst hx; rfl) (by unfold maxLen; omega) (by omega) (by have := (unhide hb).size; simp; omega) ?_; intro v2 w2 hown1 hgrow1 _ hat1; have own2 := hide (own_snocU hown1); have b2 := hide ((bAl (unhide hb) _).grown hgrow1 (by have := (unhide hb).size; simp; omega) (fun j hj => ((unhide hown).lt j hj).1)); have K2 := hide (cells_grown (unhide hK) hgrow1 (unhide hnB)); have n2 := hide (nb_grown (unhide hnB) hat1 (unhide zB)); have zB2 := hide (World.block_lt_of_cell? w2 ⟨w.heap.size + 1, k, none⟩ (unhide K2 k hlt)); clear hown1 hgrow1 hat1)
            | (at_builtin; refine wpList_append_own_at _ rfl _ _ 44 rfl w.heap.size 5 i0 (.int .u8 0) 1 1 Tryz.underlying44 hi hz0 hz1 hz2 rfl (by decide) _ _ _ rfl ((unhide own2).alloc _) ⟨_, 0, none⟩ 1 1 [byteV c] rfl rfl (cell_one_new _ _ _) (fun x hx => by simp at hx; subst hx; rfl) (by simp; unfold maxLen; omega) (by simp; omega) (by have := (unhide b2).size; simp; omega) ?_; intro v3 w3 hown3 hgrow3 _ hat3))
          exact ⟨⟨k + 1, pre ++ [92] ++ [c], by omega, by simp; omega, by go_num, hide (own_snocU hown3), hide ((bAl (unhide b2) _).grown hgrow3 (by have := (unhide b2).size; simp; omega) (fun j hj => ((unhide own2).lt j hj).1)), st, hide (cells_grown (unhide K2) hgrow3 (unhide n2)), hide (nb_grown (unhide n2) hat3 (unhide zB2))⟩, by simp [intOf]; omega⟩
        · rw [decide_eq_false h34] at e34
          rw [decide_eq_true (hq.resolve_left h34)] at e92
          clear hq h34
          go_wp2_with (first
            | (at_builtin; refine wpList_append_own_at _ rfl _ _ 44 rfl w.heap.size 5 i0 (.int .u8 0) 1 1 Tryz.underlying44 hi hz0 hz1 hz2 rfl (by decide) _ _ _ rfl ((unhide hown).alloc _) ⟨_, 0, none⟩ 1 1 [byteV 92] rfl rfl (cell_one_new _ _ _) (fun x hx => by simp at hx; subst hx; rfl) (by unfold maxLen; omega) (by omega) (by have := (unhide hb).size; simp; omega) ?_; intro v2 w2 hown1 hgrow1 _ hat1; have own2 := hide (own_snocU hown1); have b2 := hide ((bAl (unhide hb) _).grown hgrow1 (by have := (unhide hb).size; simp; omega) (fun j hj => ((unhide hown).lt j hj).1)); have K2 := hide (cells_grown (unhide hK) hgrow1 (unhide hnB)); have n2 := hide (nb_grown (unhide hnB) hat1 (unhide zB)); have zB2 := hide (World.block_lt_of_cell? w2 ⟨w.heap.size + 1, k, none⟩ (unhide K2 k hlt)); clear hown1 hgrow1 hat1)
            | (at_builtin; refine wpList_append_own_at _ rfl _ _ 44 rfl w.heap.size 5 i0 (.int .u8 0) 1 1 Tryz.underlying44 hi hz0 hz1 hz2 rfl (by decide) _ _ _ rfl ((unhide own2).alloc _) ⟨_, 0, none⟩ 1 1 [byteV c] rfl rfl (cell_one_new _ _ _) (fun x hx => by simp at hx; subst hx; rfl) (by simp; unfold maxLen; omega) (by simp; omega) (by have := (unhide b2).size; simp; omega) ?_; intro v3 w3 hown3 hgrow3 _ hat3))
          exact ⟨⟨k + 1, pre ++ [92] ++ [c], by omega, by simp; omega, by go_num, hide (own_snocU hown3), hide ((bAl (unhide b2) _).grown hgrow3 (by have := (unhide b2).size; simp; omega) (fun j hj => ((unhide own2).lt j hj).1)), st, hide (cells_grown (unhide K2) hgrow3 (unhide n2)), hide (nb_grown (unhide n2) hat3 (unhide zB2))⟩, by simp [intOf]; omega⟩
      · have st := hide (show pre ++ [c] = 34 :: qs (s.data.toList.take (k + 1)) by
          rw [unhide ed, qs_snoc, unhide hl, qb, if_neg hq]; simp)
        rw [decide_eq_false (fun h => hq (.inl h))] at e34
        rw [decide_eq_false (fun h => hq (.inr h))] at e92
        clear hq
        go_wp2_with (at_builtin; refine wpList_append_own_at _ rfl _ _ 44 rfl w.heap.size 5 i0 (.int .u8 0) 1 1 Tryz.underlying44 hi hz0 hz1 hz2 rfl (by decide) _ _ _ rfl ((unhide hown).alloc _) ⟨_, 0, none⟩ 1 1 [byteV c] rfl rfl (cell_one_new _ _ _) (fun x hx => by simp at hx; subst hx; rfl) (by unfold maxLen; omega) (by omega) (by have := (unhide hb).size; simp; omega) ?_; intro v3 w3 hown3 hgrow3 _ hat3)
        exact ⟨⟨k + 1, pre ++ [c], by omega, by simp; omega, by go_num, hide (own_snocU hown3), hide ((bAl (unhide hb) _).grown hgrow3 (by have := (unhide hb).size; simp; omega) (fun j hj => ((unhide hown).lt j hj).1)), st, hide (cells_grown (unhide hK) hgrow3 (unhide hnB)), hide (nb_grown (unhide hnB) hat3 (unhide zB))⟩, by simp [intOf]; omega⟩
    · have e : k = s.size := by omega
      have st := hide (show pre ++ [34] = quo s.data.toList by
        rw [unhide hl, e, List.take_of_length_le (by simp)]; rfl)
      go_wp2_with (at_builtin; refine wpList_append_own_at _ rfl _ _ 44 rfl w.heap.size 5 i0 (.int .u8 0) 1 1 Tryz.underlying44 hi hz0 hz1 hz2 rfl (by decide) _ _ _ rfl ((unhide hown).alloc _) ⟨_, 0, none⟩ 1 1 [byteV 34] rfl rfl (cell_one_new _ _ _) (fun x hx => by simp at hx; subst hx; rfl) (by unfold maxLen; omega) (by omega) (by have := (unhide hb).size; simp; omega) ?_; intro v3 w3 hown3 hgrow3 _ hat3; have cv := conv_own (own_snocU hown3))
      have b3 := hide ((bAl (unhide hb) _).grown hgrow3 (by have := (unhide hb).size; simp; omega) (fun j hj => ((unhide hown).lt j hj).1))
      go_ret
      exact ⟨by rw [← unhide st]; rfl, unhide b3⟩
end Go.Proofs.YthemcakenammdaaGreatDoor
