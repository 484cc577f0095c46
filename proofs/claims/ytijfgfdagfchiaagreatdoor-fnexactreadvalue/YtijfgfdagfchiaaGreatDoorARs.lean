/- spec.ReadAtom. -/
import Derived.Test.YtijfgfdagfchiaaGreatDoorAGs
namespace Go.Proofs.YtijfgfdagfchiaaGreatDoor
open Go.RowKit
set_option maxRecDepth 20000

theorem qs_le : ∀ l : List UInt8, (qs l).length ≤ 2 * l.length
  | [] => by simp [qs]
  | c :: l => by
    have ih := qs_le l
    have e : qs (c :: l) = qb c ++ qs l := by simp [qs]
    rw [e, List.length_append, List.length_cons]
    have : (qb c).length ≤ 2 := by unfold qb; split <;> simp
    omega
theorem quo_le (t : ByteArray) (h : t.size ≤ 200) : (quo t.data.toList).length ≤ 402 := by
  have := qs_le t.data.toList
  have l1 : t.data.toList.length = t.size := by simp
  unfold quo
  simp only [List.length_cons, List.length_append, List.length_nil]
  omega
/-- A good atom's text has at most 500 bytes. -/
theorem atom_500 {k n : Int} {t y : ByteArray} (hg : goodAtom k n t y = true) (h0 : -9223372036854775808 ≤ n) (h1 : n ≤ 9223372036854775807) : (atomL k n t y).length ≤ 500 := by
  have hs := shape hg
  generalize atomL k n t y = l at hs
  cases hs with
  | tru _ _ _ _ l => rw [l]; decide
  | fal _ _ _ _ l => rw [l]; decide
  | num _ _ _ l => rw [l]; have := itoa_len20 n h0 h1; omega
  | txt hk _ _ l =>
    have ht : t.size ≤ 200 := by subst hk; unfold goodAtom gText at hg; simp at hg; omega
    rw [l]; have := quo_le t ht; omega
  | ref hk _ _ l =>
    subst hk
    have ht : t.size ≤ 200 := by unfold goodAtom gText at hg; simp at hg; omega
    have hy := good_type hg
    rw [l, List.length_append, List.length_cons, List.length_cons]
    have := quo_le t ht
    have l1 : y.data.toList.length = y.size := by simp
    omega
  | dec _ _ _ l =>
    rw [l]
    have h2 := dig_len n h0 h1
    have h3 := padL_len (Lib.decDigits n.natAbs)
    unfold decL dotL
    rw [List.length_append, List.length_append, List.length_cons, List.length_take, List.length_drop]
    have : (if n < 0 then [45] else [] : List UInt8).length ≤ 1 := by split <;> simp
    omega
  | adr _ _ _ b1 b2 b3 b4 l =>
    rw [l]
    have hh : ∀ m : Int, 0 ≤ m → m ≤ 255 → (Lib.itoa m).length ≤ 20 := fun m a b => (itoa_len20 m (by omega) (by omega)).2
    have x1 := hh (n / 64 / 16777216) (by omega) (by omega)
    have x2 := hh (n / 64 / 65536 % 256) (by omega) (by omega)
    have x3 := hh (n / 64 / 256 % 256) (by omega) (by omega)
    have x4 := hh (n / 64 % 256) (by omega) (by omega)
    have x5 := hh (n % 64) (by omega) (by omega)
    unfold blkL four
    simp only [List.map_cons, List.map_nil, Lib.join, List.intercalate, List.intersperse, List.flatten_cons, List.flatten_nil, List.length_append, List.length_cons, List.length_nil]
    omega
  | tim _ _ _ l => rw [l, List.length_cons]; have := itoa_len20 n h0 h1; omega

set_option maxHeartbeats 4000000 in
theorem sReadAtom_any (s : ByteArray) (w : World) (hs : s.size ≤ 1048576) :
    Calls Tryz.prog 5 #[.string s] w fun e w' => AtmRet s.data.toList e ∧ Below w.heap.size w w' := by
  have b0 := bAl (Below.refl w.heap.size w) (.cells zAt 23)
  have R := hide (RowIs.new w zAt 23)
  have B0 := hide b0
  have zl : s.data.toList.length = s.size := by simp
  clear b0
  by_cases h0 : s.size = 0
  · have ai := hide (atm_no (l := s.data.toList) (fun k' n' t' y' a b c e => by obtain ⟨c, r, e2⟩ := atomL_cons a b c; rw [e2] at e; rw [← e] at zl; simp at zl; omega))
    go_enter Tryz.func5, Tryz.ntmps5
    go_wp2_with fail
    refine bodyPost_ret (v := .tuple #[.agg #[.int .i64 0, .int .i64 0, .string ⟨#[]⟩, .string ⟨#[]⟩], .bool false]) (by simp [results, Tryz.results5, go_sem]) rfl ⟨⟨_, _, _, _, _, rfl, unhide ai⟩, ?_⟩
    exact unhide B0
  by_cases h5 : 500 < s.size
  · have ai := hide (atm_no (l := s.data.toList) (fun k' n' t' y' a b c e => by have := atom_500 a b c; rw [e] at this; omega))
    go_enter Tryz.func5, Tryz.ntmps5
    go_wp2_with fail
    refine bodyPost_ret (v := .tuple #[.agg #[.int .i64 0, .int .i64 0, .string ⟨#[]⟩, .string ⟨#[]⟩], .bool false]) (by simp [results, Tryz.results5, go_sem]) rfl ⟨⟨_, _, _, _, _, rfl, unhide ai⟩, ?_⟩
    exact unhide B0
  have q1 := hide (fun w => l1Guess_any s w (by omega) (by omega))
  have g0 : ((s.size : Int) == 0) = false := by rw [beq_eq_false_iff_ne]; omega
  have g5 : decide (500 < (s.size : Int)) = false := by simp; omega
  go_enter Tryz.func5, Tryz.ntmps5
  go_wp2_with fail
  refine (unhide q1 _).mono ?_
  rintro e w1 ⟨⟨k, n, t, y, rfl, hga⟩, hb1⟩
  have HG := hide hga
  obtain ⟨n0, n1, tz, yz, _⟩ := hga
  replace R := hide ((unhide R).keep hb1)
  have B1 := hide (bTr (unhide B0) hb1)
  have tm : t.size ≤ maxLen := by unfold maxLen; omega
  have ym : y.size ≤ maxLen := by unfold maxLen; omega
  have q2 := hide (fun w => sGoodAtom_any k n t y w n1 tm ym)
  have q3 := hide (fun w h => l1Text_any k n t y w n0 n1 h)
  have ltw := (unhide R).lt
  have ba := bAl (Below.refl w1.heap.size w1) (.cells #[.int .i64 k, .int .i64 n, .string t, .string y] 23)
  have RA := hide (RowIs.new w1 #[.int .i64 k, .int .i64 n, .string t, .string y] 23)
  replace R := hide ((unhide R).keep ba)
  have B2 := hide (bTr (unhide B1) ba)
  have ltr := (unhide RA).lt
  have nab : ¬ w1.heap.size = w.heap.size := by omega
  clear hb1 q1 B0 B1 ba
  go_wp2_with fail
  refine (unhide q2 _).mono ?_
  rintro e w2 ⟨rfl, hb2⟩
  replace R := hide ((unhide R).keep hb2)
  replace RA := hide ((unhide RA).keep hb2)
  have B3 := hide (bTr (unhide B2) hb2)
  clear hb2 q2 B2
  cases hg : goodAtom k n t y with
  | false =>
    have ai := hide (atm_no (l := s.data.toList) (fun k' n' t' y' a b c e => by obtain ⟨rfl, rfl, rfl, rfl⟩ := (unhide HG).fit _ _ _ _ a b c e; rw [hg] at a; cases a))
    clear hg
    have j0 : w2.cell? ⟨w.heap.size, 0, none⟩ = some (.int .i64 0) := (unhide R).get rfl
    have j1 : w2.cell? ⟨w.heap.size, 1, none⟩ = some (.int .i64 0) := (unhide R).get rfl
    have j2 : w2.cell? ⟨w.heap.size, 2, none⟩ = some (.string ⟨#[]⟩) := (unhide R).get rfl
    have j3 : w2.cell? ⟨w.heap.size, 3, none⟩ = some (.string ⟨#[]⟩) := (unhide R).get rfl
    have f0 := (unhide R).frz 0
    have f1 := (unhide R).frz 1
    have f2 := (unhide R).frz 2
    have f3 := (unhide R).frz 3
    go_wp2_with fail
    refine bodyPost_ret (v := .tuple #[.agg #[.int .i64 0, .int .i64 0, .string ⟨#[]⟩, .string ⟨#[]⟩], .bool false]) (by simp [results, Tryz.results5, go_sem, j0, j1, j2, j3]) rfl ⟨⟨_, _, _, _, _, rfl, unhide ai⟩, ?_⟩
    first | exact unhide B3 | exact below_set (below_set (below_set (below_set (unhide B3) (Nat.le_refl _)) (Nat.le_refl _)) (Nat.le_refl _)) (Nat.le_refl _)
  | true =>
    have HGD := hide hg
    have HX := hide (show (⟨(atomL k n t y).toArray⟩ : ByteArray) = s ↔ atomL k n t y = s.data.toList from ⟨fun h => by rw [← h], fun h => by rw [h, mk_list]⟩)
    generalize (⟨(atomL k n t y).toArray⟩ : ByteArray) = X at q3 HX
    clear hg
    have d0 : w2.cell? ⟨w1.heap.size, 0, none⟩ = some (.int .i64 k) := (unhide RA).get rfl
    have d1 : w2.cell? ⟨w1.heap.size, 1, none⟩ = some (.int .i64 n) := (unhide RA).get rfl
    have d2 : w2.cell? ⟨w1.heap.size, 2, none⟩ = some (.string t) := (unhide RA).get rfl
    have d3 : w2.cell? ⟨w1.heap.size, 3, none⟩ = some (.string y) := (unhide RA).get rfl
    go_wp2_with fail
    refine (unhide q3 _ (unhide HGD)).mono ?_
    rintro e w3 ⟨rfl, hb3⟩
    replace R := hide ((unhide R).keep hb3)
    replace RA := hide ((unhide RA).keep hb3)
    have B4 := hide (bTr (unhide B3) hb3)
    clear hb3 q3 B3 d0 d1 d2 d3
    by_cases hx : X = s
    · have ai := hide (show AtmIs s.data.toList k n t y true from ⟨fun _ => ⟨unhide HGD, (unhide HX).1 hx, n0, n1⟩, fun k' n' t' y' a b c e => ⟨rfl, (unhide HG).fit _ _ _ _ a b c e⟩, fun h => (by cases h)⟩)
      have hx2 : (X.toList == s.toList) = true := by rw [hx]; simp
      clear hx
      have j0 : w3.cell? ⟨w.heap.size, 0, none⟩ = some (.int .i64 0) := (unhide R).get rfl
      have j1 : w3.cell? ⟨w.heap.size, 1, none⟩ = some (.int .i64 0) := (unhide R).get rfl
      have j2 : w3.cell? ⟨w.heap.size, 2, none⟩ = some (.string ⟨#[]⟩) := (unhide R).get rfl
      have j3 : w3.cell? ⟨w.heap.size, 3, none⟩ = some (.string ⟨#[]⟩) := (unhide R).get rfl
      have f0 := (unhide R).frz 0
      have f1 := (unhide R).frz 1
      have f2 := (unhide R).frz 2
      have f3 := (unhide R).frz 3
      have d0 : w3.cell? ⟨w1.heap.size, 0, none⟩ = some (.int .i64 k) := (unhide RA).get rfl
      have d1 : w3.cell? ⟨w1.heap.size, 1, none⟩ = some (.int .i64 n) := (unhide RA).get rfl
      have d2 : w3.cell? ⟨w1.heap.size, 2, none⟩ = some (.string t) := (unhide RA).get rfl
      have d3 : w3.cell? ⟨w1.heap.size, 3, none⟩ = some (.string y) := (unhide RA).get rfl
      go_wp2_with fail
      refine bodyPost_ret (v := .tuple #[.agg #[.int .i64 k, .int .i64 n, .string t, .string y], .bool true]) (by simp [results, Tryz.results5, go_sem, j0, j1, j2, j3]) rfl ⟨⟨_, _, _, _, _, rfl, unhide ai⟩, ?_⟩
      first | exact unhide B4 | exact below_set (below_set (below_set (below_set (unhide B4) (Nat.le_refl _)) (Nat.le_refl _)) (Nat.le_refl _)) (Nat.le_refl _)
    · have ai := hide (atm_no (l := s.data.toList) (fun k' n' t' y' a b c e => by obtain ⟨rfl, rfl, rfl, rfl⟩ := (unhide HG).fit _ _ _ _ a b c e; exact hx ((unhide HX).2 e)))
      have hx2 : (X.toList == s.toList) = false := by simpa using str_neq hx
      clear hx
      have j0 : w3.cell? ⟨w.heap.size, 0, none⟩ = some (.int .i64 0) := (unhide R).get rfl
      have j1 : w3.cell? ⟨w.heap.size, 1, none⟩ = some (.int .i64 0) := (unhide R).get rfl
      have j2 : w3.cell? ⟨w.heap.size, 2, none⟩ = some (.string ⟨#[]⟩) := (unhide R).get rfl
      have j3 : w3.cell? ⟨w.heap.size, 3, none⟩ = some (.string ⟨#[]⟩) := (unhide R).get rfl
      have f0 := (unhide R).frz 0
      have f1 := (unhide R).frz 1
      have f2 := (unhide R).frz 2
      have f3 := (unhide R).frz 3
      go_wp2_with fail
      refine bodyPost_ret (v := .tuple #[.agg #[.int .i64 0, .int .i64 0, .string ⟨#[]⟩, .string ⟨#[]⟩], .bool false]) (by simp [results, Tryz.results5, go_sem, j0, j1, j2, j3]) rfl ⟨⟨_, _, _, _, _, rfl, unhide ai⟩, ?_⟩
      first | exact unhide B4 | exact below_set (below_set (below_set (below_set (unhide B4) (Nat.le_refl _)) (Nat.le_refl _)) (Nat.le_refl _)) (Nat.le_refl _)
end Go.Proofs.YtijfgfdagfchiaaGreatDoor
