/- WVal, ported from seat 1a. -/
import Derived.Test.YtpfekkhnjaopdaaGreatWValJ
namespace Go.Proofs.YtpfekkhnjaopdaaGreat.V
open Go.RowKit

set_option maxHeartbeats 1000000 in
theorem iGoodValue_1 (A : AtomT) (items : List AtomT) (names : List ByteArray) (hv : A.Ok) (a1 a2 : Option Addr) (l1 c1 l2 c2 : Nat) (w : World) (e1 : l1 = items.length) (e2 : l2 = names.length) :
    Calls Tryz.prog 135 #[.agg #[.int .i64 1, .int .i64 A.x, .int .i64 A.n, .string A.t, .string A.y, .slice a1 l1 c1, .slice a2 l2 c2]] w
      fun e w' => RetB e (GoodVal ⟨1, A, items, names⟩) ∧ Below w.heap.size w w' := by
  have hg : GoodVal ⟨1, A, items, names⟩ ↔ (A.good = true ∧ ((l1 : Int) == 0) = true ∧ ((l2 : Int) == 0) = true) := by
    rw [len_zero_iff e1, len_zero_iff e2]; exact goodVal_1 A items names
  have hq := hide (fun w => AtomT.iGood A hv w)
  have HG := hide hg
  clear hg e1 e2 hv
  cases g0 : A.good
  · rw [g0] at hq HG
    clear g0
    go_enter Tryz.func135, Tryz.ntmps135
    go_wp2_with fail
    refine (unhide hq _).mono ?_
    rintro e w1 ⟨rfl, hb1⟩
    go_wp2_with fail
    go_ret
    exact ⟨retB (b := false) (by rw [unhide HG]; simp), bTr (bAl (Below.refl _ _) _) hb1⟩
  · rw [g0] at hq HG
    clear g0
    cases g1 : ((l1 : Int) == 0) <;> cases g2 : ((l2 : Int) == 0)
    all_goals
      go_enter Tryz.func135, Tryz.ntmps135
      go_wp2_with fail
      refine (unhide hq _).mono ?_
      rintro e w1 ⟨rfl, hb1⟩
      obtain ⟨_, _, _, _, _, d5, d6, _⟩ := (ValAt.new w ⟨1, A, items, names⟩ (.slice a1 l1 c1) (.slice a2 l2 c2) 103).keep hb1
      go_wp2_with fail
      go_ret
      exact ⟨retB (by rw [unhide HG, g1, g2]; simp), bTr (bAl (Below.refl _ _) _) hb1⟩

theorem iGoodValue_else (v : ValT) (a1 a2 : Option Addr) (l1 c1 l2 c2 : Nat) (w : World) (h1 : ¬ v.k = 1) (h2 : ¬ v.k = 2) (h3 : ¬ v.k = 3) :
    Calls Tryz.prog 135 #[.agg #[.int .i64 v.k, .int .i64 v.a.x, .int .i64 v.a.n, .string v.a.t, .string v.a.y, .slice a1 l1 c1, .slice a2 l2 c2]] w
      fun e w' => RetB e (GoodVal v) ∧ Below w.heap.size w w' := by
  have hg : ¬ GoodVal v := by
    unfold GoodVal
    rintro (h | h | h)
    · exact h1 h.1
    · exact h2 h.1
    · exact h3 h.1
  have HG := hide hg
  have t1 : (v.k == 1) = false := by simpa using h1
  have t2 : (v.k == 2) = false := by simpa using h2
  have t3 : (v.k == 3) = false := by simpa using h3
  clear h1 h2 h3 hg
  go_enter Tryz.func135, Tryz.ntmps135
  go_wp2_with fail
  go_ret
  exact ⟨retB (b := false) (by simp [unhide HG]), bAl (Below.refl _ _) _⟩

set_option maxHeartbeats 1000000 in
theorem iGoodValue_odd (k : Int) (A : AtomT) (items : List AtomT) (names : List ByteArray) (hk : k = 2 ∨ k = 3) (hz : ¬ zeroA A) (a1 a2 : Option Addr) (l1 c1 l2 c2 : Nat) (w : World) :
    Calls Tryz.prog 135 #[.agg #[.int .i64 k, .int .i64 A.x, .int .i64 A.n, .string A.t, .string A.y, .slice a1 l1 c1, .slice a2 l2 c2]] w
      fun e w' => RetB e (GoodVal ⟨k, A, items, names⟩) ∧ Below w.heap.size w w' := by
  have hg : ¬ GoodVal ⟨k, A, items, names⟩ := by
    rcases hk with rfl | rfl
    · rw [goodVal_2]; exact fun h => hz h.1
    · rw [goodVal_3]; exact fun h => hz h.1
  have HG := hide hg
  have HZ := hide hz
  clear hg hz
  rcases hk with rfl | rfl
  all_goals
    go_enter Tryz.func135, Tryz.ntmps135
    go_wp2_with fail
    all_goals first
      | exact absurd ⟨‹_›, ‹_›, ‹_›, ‹_›⟩ (unhide HZ)
      | (go_ret; exact ⟨retB (b := false) (by simp [unhide HG]), bAl (Below.refl _ _) _⟩)

theorem zeroA_zero : zeroA ⟨0, 0, ⟨#[]⟩, ⟨#[]⟩⟩ := ⟨rfl, rfl, by rw [ByteArray.toList_eq], by rw [ByteArray.toList_eq]⟩

set_option maxHeartbeats 1000000 in
theorem iGoodValue_2 (items : List AtomT) (names : List ByteArray) (hi : ∀ q ∈ items, AtomT.Ok q) (a1 a2 : Option Addr) (l1 c1 l2 c2 : Nat) (w : World) (hl : l1 ≤ maxLen) (hs : SlA w a1 l1 items) (e2 : l2 = names.length) :
    Calls Tryz.prog 135 #[.agg #[.int .i64 2, .int .i64 0, .int .i64 0, .string ⟨#[]⟩, .string ⟨#[]⟩, .slice a1 l1 c1, .slice a2 l2 c2]] w
      fun e w' => RetB e (GoodVal ⟨2, ⟨0, 0, ⟨#[]⟩, ⟨#[]⟩⟩, items, names⟩) ∧ Below w.heap.size w w' := by
  have hg : GoodVal ⟨2, ⟨0, 0, ⟨#[]⟩, ⟨#[]⟩⟩, items, names⟩ ↔ ((items.length ≤ 50 ∧ AllA items items.length ∧ RisA items items.length) ∧ ((l2 : Int) == 0) = true) := by
    rw [len_zero_iff e2, goodVal_2]
    exact ⟨fun h => ⟨⟨h.2.1, h.2.2.1, h.2.2.2.1⟩, h.2.2.2.2⟩, fun h => ⟨zeroA_zero, h.1.1, h.1.2.1, h.1.2.2, h.2⟩⟩
  have hq := hide (fun w (hs : SlA w a1 l1 items) => goodSet_any a1 l1 c1 items w hl hs hi)
  have HG := hide hg
  have HS := hide hs
  clear hg hs hi e2
  go_enter Tryz.func135, Tryz.ntmps135
  go_wp2_with fail
  refine (unhide hq _ ((unhide HS).keep (bAl (Below.refl _ _) _))).mono ?_
  rintro e w1 ⟨⟨b, rfl, hb⟩, hb1⟩
  have HB := hide hb
  clear hb
  obtain ⟨_, _, _, _, _, d5, d6, _⟩ := (ValAt.new w ⟨2, ⟨0, 0, ⟨#[]⟩, ⟨#[]⟩⟩, items, names⟩ (.slice a1 l1 c1) (.slice a2 l2 c2) 103).keep hb1
  cases b
  · go_wp2_with fail
    go_ret
    exact ⟨retB (b := false) (by rw [unhide HG, ← unhide HB]; simp), bTr (bAl (Below.refl _ _) _) hb1⟩
  · go_wp2_with fail
    go_ret
    exact ⟨retB (by rw [unhide HG, ← unhide HB]; simp), bTr (bAl (Below.refl _ _) _) hb1⟩

set_option maxHeartbeats 1000000 in
theorem iGoodValue_3 (items : List AtomT) (names : List ByteArray) (hi : ∀ q ∈ items, AtomT.Ok q) (hn : ∀ q ∈ names, ByteArray.size q ≤ maxLen) (a1 a2 : Option Addr) (l1 c1 l2 c2 : Nat) (w : World) (hl : l1 ≤ maxLen) (hs : SlA w a1 l1 items) (hs2 : SlS w a2 l2 names) :
    Calls Tryz.prog 135 #[.agg #[.int .i64 3, .int .i64 0, .int .i64 0, .string ⟨#[]⟩, .string ⟨#[]⟩, .slice a1 l1 c1, .slice a2 l2 c2]] w
      fun e w' => RetB e (GoodVal ⟨3, ⟨0, 0, ⟨#[]⟩, ⟨#[]⟩⟩, items, names⟩) ∧ Below w.heap.size w w' := by
  have hg : GoodVal ⟨3, ⟨0, 0, ⟨#[]⟩, ⟨#[]⟩⟩, items, names⟩ ↔ (names.length = items.length ∧ (items.length ≤ 50 ∧ AllA items items.length) ∧ AllN names names.length ∧ RisN names names.length) := by
    rw [goodVal_3]
    exact ⟨fun h => ⟨h.2.2.2.1, ⟨h.2.1, h.2.2.1⟩, h.2.2.2.2⟩, fun h => ⟨zeroA_zero, h.2.1.1, h.2.1.2, h.1, h.2.2⟩⟩
  have hq := hide (fun w (hs : SlA w a1 l1 items) (hs2 : SlS w a2 l2 names) => goodRecord_any a1 a2 l1 c1 l2 c2 items names w hl hs hs2 hi hn)
  have HG := hide hg
  have HS := hide hs
  have HS2 := hide hs2
  clear hg hs hi hs2 hn
  go_enter Tryz.func135, Tryz.ntmps135
  go_wp2_with fail
  refine (unhide hq _ ((unhide HS).keep (bAl (Below.refl _ _) _)) ((unhide HS2).keep (bAl (Below.refl _ _) _))).mono ?_
  rintro e w1 ⟨⟨b, rfl, hb⟩, hb1⟩
  have HB := hide hb
  clear hb
  go_wp2_with fail
  go_ret
  exact ⟨retB (by rw [unhide HG]; exact unhide HB), bTr (bAl (Below.refl _ _) _) hb1⟩

theorem sGoodValue_any (v : ValT) (hv : v.Ok) (a1 a2 : Option Addr) (l1 c1 l2 c2 : Nat) (w : World) (hs : SlA w a1 l1 v.items) (hs2 : SlS w a2 l2 v.names) :
    Calls Tryz.prog 74 #[.agg #[.int .i64 v.k, .int .i64 v.a.x, .int .i64 v.a.n, .string v.a.t, .string v.a.y, .slice a1 l1 c1, .slice a2 l2 c2]] w
      fun e w' => RetB e (GoodVal v) ∧ Below w.heap.size w w' := by
  obtain ⟨k, A, items, names⟩ := v
  by_cases h1 : k = 1
  · subst h1; exact sGoodValue_1 A items names hv.a a1 a2 l1 c1 l2 c2 w hs.1 hs2.1
  by_cases h23 : k = 2 ∨ k = 3
  · by_cases hz : zeroA A
    · obtain rfl := zeroA_eq hz
      rcases h23 with rfl | rfl
      · exact sGoodValue_2 items names hv.items a1 a2 l1 c1 l2 c2 w hs hs2.1
      · exact sGoodValue_3 items names hv.items hv.names a1 a2 l1 c1 l2 c2 w hs hs2
    · exact sGoodValue_odd k A items names h23 hz a1 a2 l1 c1 l2 c2 w
  · exact sGoodValue_else ⟨k, A, items, names⟩ a1 a2 l1 c1 l2 c2 w h1 (fun h => h23 (.inl h)) (fun h => h23 (.inr h))

theorem iGoodValue_any (v : ValT) (hv : v.Ok) (a1 a2 : Option Addr) (l1 c1 l2 c2 : Nat) (w : World) (hl : l1 ≤ maxLen) (hs : SlA w a1 l1 v.items) (hs2 : SlS w a2 l2 v.names) :
    Calls Tryz.prog 135 #[.agg #[.int .i64 v.k, .int .i64 v.a.x, .int .i64 v.a.n, .string v.a.t, .string v.a.y, .slice a1 l1 c1, .slice a2 l2 c2]] w
      fun e w' => RetB e (GoodVal v) ∧ Below w.heap.size w w' := by
  obtain ⟨k, A, items, names⟩ := v
  by_cases h1 : k = 1
  · subst h1; exact iGoodValue_1 A items names hv.a a1 a2 l1 c1 l2 c2 w hs.1 hs2.1
  by_cases h23 : k = 2 ∨ k = 3
  · by_cases hz : zeroA A
    · obtain rfl := zeroA_eq hz
      rcases h23 with rfl | rfl
      · exact iGoodValue_2 items names hv.items a1 a2 l1 c1 l2 c2 w hl hs hs2.1
      · exact iGoodValue_3 items names hv.items hv.names a1 a2 l1 c1 l2 c2 w hl hs hs2
    · exact iGoodValue_odd k A items names h23 hz a1 a2 l1 c1 l2 c2 w
  · exact iGoodValue_else ⟨k, A, items, names⟩ a1 a2 l1 c1 l2 c2 w h1 (fun h => h23 (.inl h)) (fun h => h23 (.inr h))
end Go.Proofs.YtpfekkhnjaopdaaGreat.V
