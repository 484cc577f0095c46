/- impl.ReadAtom. -/
import Derived.Test.YtijfgfdagfchiaaGreatDoorAGw
import Derived.Test.YtijfgfdagfchiaaGreatDoorQAtU
namespace Go.Proofs.YtijfgfdagfchiaaGreatDoor
open Go.RowKit
set_option maxRecDepth 20000

structure AtmIs (l : List UInt8) (k n : Int) (t y : ByteArray) (ok : Bool) : Prop where
  yes : ok = true → goodAtom k n t y = true ∧ atomL k n t y = l ∧ -9223372036854775808 ≤ n ∧ n ≤ 9223372036854775807
  all : ∀ (k' n' : Int) (t' y' : ByteArray), goodAtom k' n' t' y' = true → -9223372036854775808 ≤ n' → n' ≤ 9223372036854775807 → atomL k' n' t' y' = l → ok = true ∧ k = k' ∧ n = n' ∧ t = t' ∧ y = y'
  zero : ok = false → k = 0 ∧ n = 0 ∧ t = eB ∧ y = eB
def AtmRet (l : List UInt8) (e : Ending) : Prop := ∃ (k n : Int) (t y : ByteArray) (ok : Bool), e = .returned (.tuple #[.agg #[.int .i64 k, .int .i64 n, .string t, .string y], .bool ok]) ∧ AtmIs l k n t y ok
theorem AtmIs.uniq {l : List UInt8} {k n k' n' : Int} {t y t' y' : ByteArray} {ok ok' : Bool} (h : AtmIs l k n t y ok) (g : AtmIs l k' n' t' y' ok') : ok = ok' ∧ k = k' ∧ n = n' ∧ t = t' ∧ y = y' := by
  cases ok with
  | true =>
    obtain ⟨a, b, c, d⟩ := h.yes rfl
    obtain ⟨e, p, q, r, s⟩ := g.all _ _ _ _ a c d b
    exact ⟨e.symm, p.symm, q.symm, r.symm, s.symm⟩
  | false =>
    cases ok' with
    | true =>
      obtain ⟨a, b, c, d⟩ := g.yes rfl
      have := (h.all _ _ _ _ a c d b).1
      cases this
    | false =>
      obtain ⟨a, b, c, d⟩ := h.zero rfl
      obtain ⟨a', b', c', d'⟩ := g.zero rfl
      exact ⟨rfl, by rw [a, a'], by rw [b, b'], by rw [c, c'], by rw [d, d']⟩
theorem atm_no {l : List UInt8} (h : ∀ (k' n' : Int) (t' y' : ByteArray), goodAtom k' n' t' y' = true → -9223372036854775808 ≤ n' → n' ≤ 9223372036854775807 → ¬ atomL k' n' t' y' = l) : AtmIs l 0 0 eB eB false :=
  ⟨fun h => (by cases h), fun k' n' t' y' a b c e => absurd e (h k' n' t' y' a b c), fun _ => ⟨rfl, rfl, rfl, rfl⟩⟩

set_option maxHeartbeats 4000000 in
theorem iReadAtom_any (s : ByteArray) (w : World) (hs : s.size ≤ 1048576) (hE : Env w) :
    Calls Tryz.prog 6 #[.string s] w fun e w' => AtmRet s.data.toList e ∧ Below w.heap.size w w' := by
  have b0 := bAl (Below.refl w.heap.size w) (.cells zAt 23)
  have q1 := hide (guessAtom_any s _ hs (hE.keep b0))
  have HE := hide (hE.keep b0)
  have R := hide (RowIs.new w zAt 23)
  have B0 := hide b0
  clear hE b0
  go_enter Tryz.func6, Tryz.ntmps6
  go_wp2_with fail
  refine (unhide q1).mono ?_
  rintro e w1 ⟨⟨k, n, t, y, rfl, hga⟩, hb1⟩
  have HG := hide hga
  obtain ⟨n0, n1, tz, yz, _⟩ := hga
  replace R := hide ((unhide R).keep hb1)
  replace HE := hide ((unhide HE).keep hb1)
  have B1 := hide (bTr (unhide B0) hb1)
  have tm : t.size ≤ maxLen := by unfold maxLen; omega
  have ym : y.size ≤ maxLen := by unfold maxLen; omega
  have q2 := hide (fun w => iGoodAtom_any k n t y w n1 tm ym)
  have q3 := hide (fun w h => iAtomText_any k n t y w n0 n1 tm ym h)
  have ltw := (unhide R).lt
  have ba := bAl (Below.refl w1.heap.size w1) (.cells #[.int .i64 k, .int .i64 n, .string t, .string y] 23)
  have RA := hide (RowIs.new w1 #[.int .i64 k, .int .i64 n, .string t, .string y] 23)
  replace R := hide ((unhide R).keep ba)
  replace HE := hide ((unhide HE).keep ba)
  have B2 := hide (bTr (unhide B1) ba)
  have ltr := (unhide RA).lt
  have nab : ¬ w1.heap.size = w.heap.size := by omega
  clear hb1 q1 B0 B1 ba
  go_wp2_with fail
  refine (unhide q2 _).mono ?_
  rintro e w2 ⟨rfl, hb2⟩
  replace R := hide ((unhide R).keep hb2)
  replace RA := hide ((unhide RA).keep hb2)
  replace HE := hide ((unhide HE).keep hb2)
  have B3 := hide (bTr (unhide B2) hb2)
  clear hb2 q2 B2
  cases hg : goodAtom k n t y with
  | false =>
    have ai := hide (atm_no (l := s.data.toList) (fun k' n' t' y' a b c e => by obtain ⟨rfl, rfl, rfl, rfl⟩ := (unhide HG).fit _ _ _ _ a b c e; rw [hg] at a; cases a))
    clear hg
    have j0 : w2.cell? ⟨w.heap.size, 0, none⟩ = some (.int .i64 0) := (unhide R).get rfl
    have j1 : w2.cell? ⟨w.heap.size, 1, none⟩ = some (.int .i64 0) := (unhide R).get rfl
    have j2 : w2.cell? ⟨w.heap.size, 2, none⟩ = some (.string ⟨#[]⟩) := (unhide R).get rfl
    have j3 : w2.cell? ⟨w.heap.size, 3, none⟩ = some (.string ⟨#[]⟩) := (unhide R).get rfl
    have f0 := (unhide R).frz 0
    have f1 := (unhide R).frz 1
    have f2 := (unhide R).frz 2
    have f3 := (unhide R).frz 3
    go_wp2_with fail
    refine bodyPost_ret (v := .tuple #[.agg #[.int .i64 0, .int .i64 0, .string ⟨#[]⟩, .string ⟨#[]⟩], .bool false]) (by simp [results, Tryz.results6, go_sem, j0, j1, j2, j3]) rfl ⟨⟨_, _, _, _, _, rfl, unhide ai⟩, ?_⟩
    first | exact unhide B3 | exact below_set (below_set (below_set (below_set (unhide B3) (Nat.le_refl _)) (Nat.le_refl _)) (Nat.le_refl _)) (Nat.le_refl _)
  | true =>
    have eT : atomT k n t y = ⟨(atomL k n t y).toArray⟩ := by unfold atomT; rw [if_pos hg]
    have HGD := hide hg
    rw [eT] at q3
    have HX := hide (show (⟨(atomL k n t y).toArray⟩ : ByteArray) = s ↔ atomL k n t y = s.data.toList from ⟨fun h => by rw [← h], fun h => by rw [h, mk_list]⟩)
    generalize (⟨(atomL k n t y).toArray⟩ : ByteArray) = X at q3 HX
    clear eT hg
    have d0 : w2.cell? ⟨w1.heap.size, 0, none⟩ = some (.int .i64 k) := (unhide RA).get rfl
    have d1 : w2.cell? ⟨w1.heap.size, 1, none⟩ = some (.int .i64 n) := (unhide RA).get rfl
    have d2 : w2.cell? ⟨w1.heap.size, 2, none⟩ = some (.string t) := (unhide RA).get rfl
    have d3 : w2.cell? ⟨w1.heap.size, 3, none⟩ = some (.string y) := (unhide RA).get rfl
    go_wp2_with fail
    refine (unhide q3 _ (unhide HE).tab).mono ?_
    rintro e w3 ⟨rfl, hb3⟩
    replace R := hide ((unhide R).keep hb3)
    replace RA := hide ((unhide RA).keep hb3)
    have B4 := hide (bTr (unhide B3) hb3)
    clear hb3 q3 B3 d0 d1 d2 d3
    by_cases hx : X = s
    · have ai := hide (show AtmIs s.data.toList k n t y true from ⟨fun _ => ⟨unhide HGD, (unhide HX).1 hx, n0, n1⟩, fun k' n' t' y' a b c e => ⟨rfl, (unhide HG).fit _ _ _ _ a b c e⟩, fun h => (by cases h)⟩)
      have hx2 : (X.toList == s.toList) = true := by rw [hx]; simp
      clear hx
      have j0 : w3.cell? ⟨w.heap.size, 0, none⟩ = some (.int .i64 0) := (unhide R).get rfl
      have j1 : w3.cell? ⟨w.heap.size, 1, none⟩ = some (.int .i64 0) := (unhide R).get rfl
      have j2 : w3.cell? ⟨w.heap.size, 2, none⟩ = some (.string ⟨#[]⟩) := (unhide R).get rfl
      have j3 : w3.cell? ⟨w.heap.size, 3, none⟩ = some (.string ⟨#[]⟩) := (unhide R).get rfl
      have f0 := (unhide R).frz 0
      have f1 := (unhide R).frz 1
      have f2 := (unhide R).frz 2
      have f3 := (unhide R).frz 3
      have d0 : w3.cell? ⟨w1.heap.size, 0, none⟩ = some (.int .i64 k) := (unhide RA).get rfl
      have d1 : w3.cell? ⟨w1.heap.size, 1, none⟩ = some (.int .i64 n) := (unhide RA).get rfl
      have d2 : w3.cell? ⟨w1.heap.size, 2, none⟩ = some (.string t) := (unhide RA).get rfl
      have d3 : w3.cell? ⟨w1.heap.size, 3, none⟩ = some (.string y) := (unhide RA).get rfl
      go_wp2_with fail
      refine bodyPost_ret (v := .tuple #[.agg #[.int .i64 k, .int .i64 n, .string t, .string y], .bool true]) (by simp [results, Tryz.results6, go_sem, j0, j1, j2, j3]) rfl ⟨⟨_, _, _, _, _, rfl, unhide ai⟩, ?_⟩
      first | exact unhide B4 | exact below_set (below_set (below_set (below_set (unhide B4) (Nat.le_refl _)) (Nat.le_refl _)) (Nat.le_refl _)) (Nat.le_refl _)
    · have ai := hide (atm_no (l := s.data.toList) (fun k' n' t' y' a b c e => by obtain ⟨rfl, rfl, rfl, rfl⟩ := (unhide HG).fit _ _ _ _ a b c e; exact hx ((unhide HX).2 e)))
      have hx2 : (X.toList == s.toList) = false := by simpa using str_neq hx
      clear hx
      have j0 : w3.cell? ⟨w.heap.size, 0, none⟩ = some (.int .i64 0) := (unhide R).get rfl
      have j1 : w3.cell? ⟨w.heap.size, 1, none⟩ = some (.int .i64 0) := (unhide R).get rfl
      have j2 : w3.cell? ⟨w.heap.size, 2, none⟩ = some (.string ⟨#[]⟩) := (unhide R).get rfl
      have j3 : w3.cell? ⟨w.heap.size, 3, none⟩ = some (.string ⟨#[]⟩) := (unhide R).get rfl
      have f0 := (unhide R).frz 0
      have f1 := (unhide R).frz 1
      have f2 := (unhide R).frz 2
      have f3 := (unhide R).frz 3
      go_wp2_with fail
      refine bodyPost_ret (v := .tuple #[.agg #[.int .i64 0, .int .i64 0, .string ⟨#[]⟩, .string ⟨#[]⟩], .bool false]) (by simp [results, Tryz.results6, go_sem, j0, j1, j2, j3]) rfl ⟨⟨_, _, _, _, _, rfl, unhide ai⟩, ?_⟩
      first | exact unhide B4 | exact below_set (below_set (below_set (below_set (unhide B4) (Nat.le_refl _)) (Nat.le_refl _)) (Nat.le_refl _)) (Nat.le_refl _)
end Go.Proofs.YtijfgfdagfchiaaGreatDoor
