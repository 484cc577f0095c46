/- WVal, SBase, one behind the other. -/
import Derived.Test.YtpfekkhnjaopdaaGreatJ9
import Derived.Laws.AppendOwn
import Derived.Laws.OwnMore
import Derived.Lib.SmallJoins
import Derived.OwnWalk
/- WVal, ported from seat 1a. -/
namespace Go.Proofs.YtpfekkhnjaopdaaGreat.V
open Go.RowKit

set_option maxHeartbeats 1000000 in
theorem iGoodValue_1 (A : AtomT) (items : List AtomT) (names : List ByteArray) (hv : A.Ok) (a1 a2 : Option Addr) (l1 c1 l2 c2 : Nat) (w : World) (e1 : l1 = items.length) (e2 : l2 = names.length) :
    Calls Tryz.prog 135 #[.agg #[.int .i64 1, .int .i64 A.x, .int .i64 A.n, .string A.t, .string A.y, .slice a1 l1 c1, .slice a2 l2 c2]] w
      fun e w' => RetB e (GoodVal ⟨1, A, items, names⟩) ∧ Below w.heap.size w w' := by
  have hg : GoodVal ⟨1, A, items, names⟩ ↔ (A.good = true ∧ ((l1 : Int) == 0) = true ∧ ((l2 : Int) == 0) = true) := by
    rw [len_zero_iff e1, len_zero_iff e2]; exact goodVal_1 A items names
  have hq := hide (fun w => AtomT.iGood A hv w)
  have HG := hide hg
  clear hg e1 e2 hv
  cases g0 : A.good
  · rw [g0] at hq HG
    clear g0
    go_enter Tryz.func135, Tryz.ntmps135
    go_wp2_with fail
    refine (unhide hq _).mono ?_
    rintro e w1 ⟨rfl, hb1⟩
    go_wp2_with fail
    go_ret
    exact ⟨retB (b := false) (by rw [unhide HG]; simp), bTr (bAl (Below.refl _ _) _) hb1⟩
  · rw [g0] at hq HG
    clear g0
    cases g1 : ((l1 : Int) == 0) <;> cases g2 : ((l2 : Int) == 0)
    all_goals
      go_enter Tryz.func135, Tryz.ntmps135
      go_wp2_with fail
      refine (unhide hq _).mono ?_
      rintro e w1 ⟨rfl, hb1⟩
      obtain ⟨_, _, _, _, _, d5, d6, _⟩ := (ValAt.new w ⟨1, A, items, names⟩ (.slice a1 l1 c1) (.slice a2 l2 c2) 103).keep hb1
      go_wp2_with fail
      go_ret
      exact ⟨retB (by rw [unhide HG, g1, g2]; simp), bTr (bAl (Below.refl _ _) _) hb1⟩

theorem iGoodValue_else (v : ValT) (a1 a2 : Option Addr) (l1 c1 l2 c2 : Nat) (w : World) (h1 : ¬ v.k = 1) (h2 : ¬ v.k = 2) (h3 : ¬ v.k = 3) :
    Calls Tryz.prog 135 #[.agg #[.int .i64 v.k, .int .i64 v.a.x, .int .i64 v.a.n, .string v.a.t, .string v.a.y, .slice a1 l1 c1, .slice a2 l2 c2]] w
      fun e w' => RetB e (GoodVal v) ∧ Below w.heap.size w w' := by
  have hg : ¬ GoodVal v := by
    unfold GoodVal
    rintro (h | h | h)
    · exact h1 h.1
    · exact h2 h.1
    · exact h3 h.1
  have HG := hide hg
  have t1 : (v.k == 1) = false := by simpa using h1
  have t2 : (v.k == 2) = false := by simpa using h2
  have t3 : (v.k == 3) = false := by simpa using h3
  clear h1 h2 h3 hg
  go_enter Tryz.func135, Tryz.ntmps135
  go_wp2_with fail
  go_ret
  exact ⟨retB (b := false) (by simp [unhide HG]), bAl (Below.refl _ _) _⟩

set_option maxHeartbeats 1000000 in
theorem iGoodValue_odd (k : Int) (A : AtomT) (items : List AtomT) (names : List ByteArray) (hk : k = 2 ∨ k = 3) (hz : ¬ zeroA A) (a1 a2 : Option Addr) (l1 c1 l2 c2 : Nat) (w : World) :
    Calls Tryz.prog 135 #[.agg #[.int .i64 k, .int .i64 A.x, .int .i64 A.n, .string A.t, .string A.y, .slice a1 l1 c1, .slice a2 l2 c2]] w
      fun e w' => RetB e (GoodVal ⟨k, A, items, names⟩) ∧ Below w.heap.size w w' := by
  have hg : ¬ GoodVal ⟨k, A, items, names⟩ := by
    rcases hk with rfl | rfl
    · rw [goodVal_2]; exact fun h => hz h.1
    · rw [goodVal_3]; exact fun h => hz h.1
  have HG := hide hg
  have HZ := hide hz
  clear hg hz
  rcases hk with rfl | rfl
  all_goals
    go_enter Tryz.func135, Tryz.ntmps135
    go_wp2_with fail
    all_goals first
      | exact absurd ⟨‹_›, ‹_›, ‹_›, ‹_›⟩ (unhide HZ)
      | (go_ret; exact ⟨retB (b := false) (by simp [unhide HG]), bAl (Below.refl _ _) _⟩)

theorem zeroA_zero : zeroA ⟨0, 0, ⟨#[]⟩, ⟨#[]⟩⟩ := ⟨rfl, rfl, by rw [ByteArray.toList_eq], by rw [ByteArray.toList_eq]⟩

set_option maxHeartbeats 1000000 in
theorem iGoodValue_2 (items : List AtomT) (names : List ByteArray) (hi : ∀ q ∈ items, AtomT.Ok q) (a1 a2 : Option Addr) (l1 c1 l2 c2 : Nat) (w : World) (hl : l1 ≤ maxLen) (hs : SlA w a1 l1 items) (e2 : l2 = names.length) :
    Calls Tryz.prog 135 #[.agg #[.int .i64 2, .int .i64 0, .int .i64 0, .string ⟨#[]⟩, .string ⟨#[]⟩, .slice a1 l1 c1, .slice a2 l2 c2]] w
      fun e w' => RetB e (GoodVal ⟨2, ⟨0, 0, ⟨#[]⟩, ⟨#[]⟩⟩, items, names⟩) ∧ Below w.heap.size w w' := by
  have hg : GoodVal ⟨2, ⟨0, 0, ⟨#[]⟩, ⟨#[]⟩⟩, items, names⟩ ↔ ((items.length ≤ 50 ∧ AllA items items.length ∧ RisA items items.length) ∧ ((l2 : Int) == 0) = true) := by
    rw [len_zero_iff e2, goodVal_2]
    exact ⟨fun h => ⟨⟨h.2.1, h.2.2.1, h.2.2.2.1⟩, h.2.2.2.2⟩, fun h => ⟨zeroA_zero, h.1.1, h.1.2.1, h.1.2.2, h.2⟩⟩
  have hq := hide (fun w (hs : SlA w a1 l1 items) => goodSet_any a1 l1 c1 items w hl hs hi)
  have HG := hide hg
  have HS := hide hs
  clear hg hs hi e2
  go_enter Tryz.func135, Tryz.ntmps135
  go_wp2_with fail
  refine (unhide hq _ ((unhide HS).keep (bAl (Below.refl _ _) _))).mono ?_
  rintro e w1 ⟨⟨b, rfl, hb⟩, hb1⟩
  have HB := hide hb
  clear hb
  obtain ⟨_, _, _, _, _, d5, d6, _⟩ := (ValAt.new w ⟨2, ⟨0, 0, ⟨#[]⟩, ⟨#[]⟩⟩, items, names⟩ (.slice a1 l1 c1) (.slice a2 l2 c2) 103).keep hb1
  cases b
  · go_wp2_with fail
    go_ret
    exact ⟨retB (b := false) (by rw [unhide HG, ← unhide HB]; simp), bTr (bAl (Below.refl _ _) _) hb1⟩
  · go_wp2_with fail
    go_ret
    exact ⟨retB (by rw [unhide HG, ← unhide HB]; simp), bTr (bAl (Below.refl _ _) _) hb1⟩

set_option maxHeartbeats 1000000 in
theorem iGoodValue_3 (items : List AtomT) (names : List ByteArray) (hi : ∀ q ∈ items, AtomT.Ok q) (hn : ∀ q ∈ names, ByteArray.size q ≤ maxLen) (a1 a2 : Option Addr) (l1 c1 l2 c2 : Nat) (w : World) (hl : l1 ≤ maxLen) (hs : SlA w a1 l1 items) (hs2 : SlS w a2 l2 names) :
    Calls Tryz.prog 135 #[.agg #[.int .i64 3, .int .i64 0, .int .i64 0, .string ⟨#[]⟩, .string ⟨#[]⟩, .slice a1 l1 c1, .slice a2 l2 c2]] w
      fun e w' => RetB e (GoodVal ⟨3, ⟨0, 0, ⟨#[]⟩, ⟨#[]⟩⟩, items, names⟩) ∧ Below w.heap.size w w' := by
  have hg : GoodVal ⟨3, ⟨0, 0, ⟨#[]⟩, ⟨#[]⟩⟩, items, names⟩ ↔ (names.length = items.length ∧ (items.length ≤ 50 ∧ AllA items items.length) ∧ AllN names names.length ∧ RisN names names.length) := by
    rw [goodVal_3]
    exact ⟨fun h => ⟨h.2.2.2.1, ⟨h.2.1, h.2.2.1⟩, h.2.2.2.2⟩, fun h => ⟨zeroA_zero, h.2.1.1, h.2.1.2, h.1, h.2.2⟩⟩
  have hq := hide (fun w (hs : SlA w a1 l1 items) (hs2 : SlS w a2 l2 names) => goodRecord_any a1 a2 l1 c1 l2 c2 items names w hl hs hs2 hi hn)
  have HG := hide hg
  have HS := hide hs
  have HS2 := hide hs2
  clear hg hs hi hs2 hn
  go_enter Tryz.func135, Tryz.ntmps135
  go_wp2_with fail
  refine (unhide hq _ ((unhide HS).keep (bAl (Below.refl _ _) _)) ((unhide HS2).keep (bAl (Below.refl _ _) _))).mono ?_
  rintro e w1 ⟨⟨b, rfl, hb⟩, hb1⟩
  have HB := hide hb
  clear hb
  go_wp2_with fail
  go_ret
  exact ⟨retB (by rw [unhide HG]; exact unhide HB), bTr (bAl (Below.refl _ _) _) hb1⟩

theorem sGoodValue_any (v : ValT) (hv : v.Ok) (a1 a2 : Option Addr) (l1 c1 l2 c2 : Nat) (w : World) (hs : SlA w a1 l1 v.items) (hs2 : SlS w a2 l2 v.names) :
    Calls Tryz.prog 74 #[.agg #[.int .i64 v.k, .int .i64 v.a.x, .int .i64 v.a.n, .string v.a.t, .string v.a.y, .slice a1 l1 c1, .slice a2 l2 c2]] w
      fun e w' => RetB e (GoodVal v) ∧ Below w.heap.size w w' := by
  obtain ⟨k, A, items, names⟩ := v
  by_cases h1 : k = 1
  · subst h1; exact sGoodValue_1 A items names hv.a a1 a2 l1 c1 l2 c2 w hs.1 hs2.1
  by_cases h23 : k = 2 ∨ k = 3
  · by_cases hz : zeroA A
    · obtain rfl := zeroA_eq hz
      rcases h23 with rfl | rfl
      · exact sGoodValue_2 items names hv.items a1 a2 l1 c1 l2 c2 w hs hs2.1
      · exact sGoodValue_3 items names hv.items hv.names a1 a2 l1 c1 l2 c2 w hs hs2
    · exact sGoodValue_odd k A items names h23 hz a1 a2 l1 c1 l2 c2 w
  · exact sGoodValue_else ⟨k, A, items, names⟩ a1 a2 l1 c1 l2 c2 w h1 (fun h => h23 (.inl h)) (fun h => h23 (.inr h))

theorem iGoodValue_any (v : ValT) (hv : v.Ok) (a1 a2 : Option Addr) (l1 c1 l2 c2 : Nat) (w : World) (hl : l1 ≤ maxLen) (hs : SlA w a1 l1 v.items) (hs2 : SlS w a2 l2 v.names) :
    Calls Tryz.prog 135 #[.agg #[.int .i64 v.k, .int .i64 v.a.x, .int .i64 v.a.n, .string v.a.t, .string v.a.y, .slice a1 l1 c1, .slice a2 l2 c2]] w
      fun e w' => RetB e (GoodVal v) ∧ Below w.heap.size w w' := by
  obtain ⟨k, A, items, names⟩ := v
  by_cases h1 : k = 1
  · subst h1; exact iGoodValue_1 A items names hv.a a1 a2 l1 c1 l2 c2 w hs.1 hs2.1
  by_cases h23 : k = 2 ∨ k = 3
  · by_cases hz : zeroA A
    · obtain rfl := zeroA_eq hz
      rcases h23 with rfl | rfl
      · exact iGoodValue_2 items names hv.items a1 a2 l1 c1 l2 c2 w hl hs hs2.1
      · exact iGoodValue_3 items names hv.items hv.names a1 a2 l1 c1 l2 c2 w hl hs hs2
    · exact iGoodValue_odd k A items names h23 hz a1 a2 l1 c1 l2 c2 w
  · exact iGoodValue_else ⟨k, A, items, names⟩ a1 a2 l1 c1 l2 c2 w h1 (fun h => h23 (.inl h)) (fun h => h23 (.inr h))
end Go.Proofs.YtpfekkhnjaopdaaGreat.V
/- Rows of atoms, values that are owned. -/
namespace Go.Proofs.YtpfekkhnjaopdaaGreat.V
open Go.RowKit
set_option maxRecDepth 20000
def cellsA (a : AtomT) : List Value := [.int .i64 a.x, .int .i64 a.n, .string a.t, .string a.y]
def atomsV (l : List AtomT) : List Value := l.flatMap cellsA
def zV (k : Int) (v1 v2 : Value) : Array Value := #[.int .i64 k, .int .i64 0, .int .i64 0, .string ⟨#[]⟩, .string ⟨#[]⟩, v1, v2]
theorem cell_four_new (w : World) (L : List Value) (t : TypeId) : ∀ j u, L[j]? = some u → (w.alloc (.cells L.toArray t)).cell? ((⟨w.heap.size, 0, none⟩ : Addr).add j) = some u := by
  intro j u h
  have e : (⟨w.heap.size, 0, none⟩ : Addr).add j = ⟨w.heap.size, j, none⟩ := by simp [Addr.add]; omega
  have := (RowIs.new w L.toArray t).cell j
  rw [e, this]
  simpa using h
theorem own_keepT {w w' : World} {base n e size : Nat} {v : Value} {xs : List Value} (h : w.ownsRow base e size v n xs) (hb : Below w.heap.size w w') : w'.ownsRow base e size v n xs := by
  refine ⟨h.1, h.2.imp_right ?_⟩
  rintro ⟨g, cap, cur, e', h1, hh, r⟩
  have hl : g < w.heap.size := (Array.getElem?_eq_some_iff.1 hh).1
  exact ⟨g, cap, cur, e', h1, by rw [hb.block g hl]; exact hh, r⟩
theorem own_sl {w : World} {base e size n : Nat} {v : Value} {xs : List Value} (h : w.ownsRow base e size v n xs) : ∃ a cap, v = .slice a n cap := by
  rcases h.2 with ⟨rfl, rfl⟩ | ⟨g, cap, cur, rfl, _⟩
  · exact ⟨_, _, rfl⟩
  · exact ⟨_, _, rfl⟩
theorem below_set {B : Nat} {w w' : World} {b o : Nat} {v : Value} (h : Below B w w') (hb : B ≤ b) : Below B w (w'.setCell ⟨b, o, none⟩ v) := h.setCell (by simpa using hb) _
theorem own_base {w : World} {base base' e size n : Nat} {v : Value} {xs : List Value} (h : w.ownsRow base e size v n xs) (hb : base' ≤ base) : w.ownsRow base' e size v n xs := by
  refine ⟨h.1, ?_⟩
  rcases h.2 with h2 | ⟨g, cap, cur, hv, h3, h4⟩
  · exact .inl h2
  · exact .inr ⟨g, cap, cur, hv, Nat.le_trans hb h3, h4⟩
theorem own_set {w : World} {base e size n b o : Nat} {v u : Value} {xs : List Value} (h : w.ownsRow base e size v n xs) (hne : ∀ g, v.ownBlock = some g → g ≠ b) : (w.setCell ⟨b, o, none⟩ u).ownsRow base e size v n xs := by
  refine ⟨h.1, ?_⟩
  rcases h.2 with h2 | ⟨g, cap, cur, hv, h3, h4, h5⟩
  · exact .inl h2
  · exact .inr ⟨g, cap, cur, hv, h3, by rw [heap_setCell_other w ⟨b, o, none⟩ g u (hne g (by rw [hv]; rfl))]; exact h4, h5⟩
theorem own_set7 {w : World} {base base' e size n b : Nat} {v u0 u1 u2 u3 u4 u5 u6 : Value} {xs : List Value} (h : w.ownsRow base e size v n xs) (hb : base' ≤ base) (hne : b < base) :
    (((((((w.setCell ⟨b, 0, none⟩ u0).setCell ⟨b, 1, none⟩ u1).setCell ⟨b, 2, none⟩ u2).setCell ⟨b, 3, none⟩ u3).setCell ⟨b, 4, none⟩ u4).setCell ⟨b, 5, none⟩ u5).setCell ⟨b, 6, none⟩ u6).ownsRow base' e size v n xs := by
  have ne : ∀ g, v.ownBlock = some g → g ≠ b := fun g e => by have := (h.lt g e).1; omega
  exact own_base (own_set (own_set (own_set (own_set (own_set (own_set (own_set h ne) ne) ne) ne) ne) ne) ne) hb
theorem below_set7 {B b : Nat} {w w' : World} {u0 u1 u2 u3 u4 u5 u6 : Value} (h : Below B w w') (hb : B ≤ b) :
    Below B w (((((((w'.setCell ⟨b, 0, none⟩ u0).setCell ⟨b, 1, none⟩ u1).setCell ⟨b, 2, none⟩ u2).setCell ⟨b, 3, none⟩ u3).setCell ⟨b, 4, none⟩ u4).setCell ⟨b, 5, none⟩ u5).setCell ⟨b, 6, none⟩ u6) :=
  below_set (below_set (below_set (below_set (below_set (below_set (below_set h hb) hb) hb) hb) hb) hb) hb
theorem atomsV_snoc (l : List AtomT) (a : AtomT) : atomsV (l ++ [a]) = atomsV l ++ cellsA a := by simp [atomsV]
theorem RowIs.grown {w w' : World} {b : Nat} {C : Array Value} {T : TypeId} {r : Option Nat} (h : RowIs w b C T) (hg : w.grownBy w' r) (hne : some b ≠ r) : RowIs w' b C T := by
  have hl := h.lt
  unfold RowIs at *; rw [hg.block b hl hne]; exact h
theorem own_or {v u : Value} (h : ∀ g, v.ownBlock = some g → u.ownBlock ≠ some g) : v.ownBlock = none ∨ v.ownBlock ≠ u.ownBlock := by
  cases e : v.ownBlock with
  | none => exact .inl rfl
  | some g => exact .inr (fun e2 => h g e e2.symm)
abbrev zA : AtomT := ⟨0, 0, ⟨#[]⟩, ⟨#[]⟩⟩
theorem atomsV_get : ∀ (l : List AtomT) (i j : Nat) (h : i < l.length), j < 4 → (atomsV l)[i * 4 + j]? = (cellsA l[i])[j]?
  | a :: l, 0, j, _, hj => by
    show (cellsA a ++ atomsV l)[0 * 4 + j]? = _
    rw [List.getElem?_append_left (by show 0 * 4 + j < 4; omega), Nat.zero_mul, Nat.zero_add]
    rfl
  | a :: l, i + 1, j, h, hj => by
    show (cellsA a ++ atomsV l)[(i + 1) * 4 + j]? = _
    rw [List.getElem?_append_right (by show 4 ≤ _; omega), show (i + 1) * 4 + j - (cellsA a).length = i * 4 + j by show _ - 4 = _; omega]
    exact atomsV_get l i j (by simpa using h) hj
theorem atomsV_len (l : List AtomT) : (atomsV l).length = l.length * 4 := by
  induction l with
  | nil => rfl
  | cons a l ih =>
    show (cellsA a ++ atomsV l).length = _
    rw [List.length_append, ih]
    show 4 + _ = (l.length + 1) * 4
    omega
theorem zA_ok : AtomT.Ok zA := ⟨by decide, by decide, by unfold maxLen; decide, by unfold maxLen; decide⟩
theorem sla_own {w : World} {base cap len : Nat} {a : Option Addr} {l : List AtomT} (h : w.ownsRow base 31 4 (.slice a len cap) len (atomsV l)) : SlA w a len l := by
  have hl : len = l.length := by have := h.1; rw [atomsV_len] at this; omega
  refine ⟨hl, ?_⟩
  rcases h.2 with ⟨e, hn⟩ | ⟨g, c, cur, hv, hg, hc, _, _, _, htk⟩
  · exact .inl (List.length_eq_zero_iff.1 (by omega))
  · injection hv with hv
    refine .inr ⟨g, 0, hv, ⟨(Array.getElem?_eq_some_iff.1 hc).1, fun i hi => ?_⟩⟩
    have cell : ∀ j, j < 4 → w.cell? ⟨g, 0 + i * 4 + j, none⟩ = (cellsA l[i])[j]? := fun j hj => by
      have h2 := congrArg (fun l => l[i * 4 + j]?) htk
      simp only [List.getElem?_take] at h2
      rw [if_pos (by omega), Array.getElem?_toList, atomsV_get l i j hi hj] at h2
      simp only [World.cell?, hc, Nat.zero_add]
      exact h2
    exact ⟨cell 0 (by omega), cell 1 (by omega), cell 2 (by omega), cell 3 (by omega)⟩
theorem sls_own {w : World} {base cap len : Nat} {a : Option Addr} {l : List ByteArray} (h : w.ownsRow base 9 1 (.slice a len cap) len (l.map Value.string)) : SlS w a len l := by
  have hl : len = l.length := by have := h.1; rw [List.length_map] at this; omega
  refine ⟨hl, ?_⟩
  rcases h.2 with ⟨e, hn⟩ | ⟨g, c, cur, hv, hg, hc, _, _, _, htk⟩
  · exact .inl (List.length_eq_zero_iff.1 (by omega))
  · injection hv with hv
    refine .inr ⟨g, 0, hv, ⟨(Array.getElem?_eq_some_iff.1 hc).1, fun i hi => ?_⟩⟩
    have h2 := congrArg (fun l => l[i]?) htk
    simp only [List.getElem?_take] at h2
    rw [if_pos (by omega), Array.getElem?_toList, List.getElem?_map, List.getElem?_eq_getElem hi] at h2
    simp only [World.cell?, hc, Nat.zero_add]
    exact h2
def VRet (v : ValT) (v1 v2 : Value) : Value := .agg #[.int .i64 v.k, .int .i64 v.a.x, .int .i64 v.a.n, .string v.a.t, .string v.a.y, v1, v2]
structure VOwn (w : World) (base : Nat) (v : ValT) (v1 v2 : Value) : Prop where
  i : w.ownsRow base 31 4 v1 v.items.length (atomsV v.items)
  n : w.ownsRow base 9 1 v2 v.names.length (v.names.map Value.string)
  dj : ∀ g, v1.ownBlock = some g → v2.ownBlock ≠ some g
theorem VOwn.keep {w w' : World} {base : Nat} {v : ValT} {v1 v2 : Value} (h : VOwn w base v v1 v2) (hb : Below w.heap.size w w') : VOwn w' base v v1 v2 := ⟨own_keepT h.i hb, own_keepT h.n hb, h.dj⟩
theorem VOwn.nil (w : World) (base : Nat) (k : Int) (a : AtomT) : VOwn w base ⟨k, a, [], []⟩ (.slice none 0 0) (.slice none 0 0) := ⟨World.ownsRow_nil _ _ _ _, World.ownsRow_nil _ _ _ _, fun g h => by cases h⟩
theorem row_set7 {w : World} {b : Nat} {v1 v2 : Value} {k : Int} (h : RowIs w b (zV k v1 v2) 103) (u0 u1 u2 u3 u4 u5 u6 : Value) :
    RowIs (((((((w.setCell ⟨b, 0, none⟩ u0).setCell ⟨b, 1, none⟩ u1).setCell ⟨b, 2, none⟩ u2).setCell ⟨b, 3, none⟩ u3).setCell ⟨b, 4, none⟩ u4).setCell ⟨b, 5, none⟩ u5).setCell ⟨b, 6, none⟩ u6) b #[u0, u1, u2, u3, u4, u5, u6] 103 := by
  have h7 := ((((((h.set 0 u0).set 1 u1).set 2 u2).set 3 u3).set 4 u4).set 5 u5).set 6 u6
  have e : ((((((((zV k v1 v2).setIfInBounds 0 u0).setIfInBounds 1 u1).setIfInBounds 2 u2).setIfInBounds 3 u3).setIfInBounds 4 u4).setIfInBounds 5 u5).setIfInBounds 6 u6) = #[u0, u1, u2, u3, u4, u5, u6] := by
    apply Array.toList_inj.1
    simp [zV]
  rw [e] at h7
  exact h7
abbrev zVal : ValT := ⟨0, zA, [], []⟩
theorem zval_own (w : World) (base : Nat) : VOwn w base zVal (.slice none 0 0) (.slice none 0 0) := VOwn.nil w base 0 zA
theorem VOwn.set7 {w : World} {base base' b : Nat} {v : ValT} {v1 v2 u0 u1 u2 u3 u4 u5 u6 : Value} (h : VOwn w base v v1 v2) (hb : base' ≤ base) (hne : b < base) :
    VOwn (((((((w.setCell ⟨b, 0, none⟩ u0).setCell ⟨b, 1, none⟩ u1).setCell ⟨b, 2, none⟩ u2).setCell ⟨b, 3, none⟩ u3).setCell ⟨b, 4, none⟩ u4).setCell ⟨b, 5, none⟩ u5).setCell ⟨b, 6, none⟩ u6) base' v v1 v2 :=
  ⟨own_set7 h.i hb hne, own_set7 h.n hb hne, h.dj⟩
end Go.Proofs.YtpfekkhnjaopdaaGreat.V
