/- ARd, APrt, one behind the other. -/
import Derived.Test.YticidjceljjfnaaGreatDoorJ28
import Derived.Test.YticidjceljjfnaaGreatDoorJ22
/- impl.ReadAtom. -/
namespace Go.Proofs.YticidjceljjfnaaGreatDoor
open Go.RowKit
set_option maxRecDepth 20000

structure AtmIs (l : List UInt8) (k n : Int) (t y : ByteArray) (ok : Bool) : Prop where
  yes : ok = true → goodAtom k n t y = true ∧ atomL k n t y = l ∧ -9223372036854775808 ≤ n ∧ n ≤ 9223372036854775807
  all : ∀ (k' n' : Int) (t' y' : ByteArray), goodAtom k' n' t' y' = true → -9223372036854775808 ≤ n' → n' ≤ 9223372036854775807 → atomL k' n' t' y' = l → ok = true ∧ k = k' ∧ n = n' ∧ t = t' ∧ y = y'
  zero : ok = false → k = 0 ∧ n = 0 ∧ t = eB ∧ y = eB
def AtmRet (l : List UInt8) (e : Ending) : Prop := ∃ (k n : Int) (t y : ByteArray) (ok : Bool), e = .returned (.tuple #[.agg #[.int .i64 k, .int .i64 n, .string t, .string y], .bool ok]) ∧ AtmIs l k n t y ok
theorem AtmIs.uniq {l : List UInt8} {k n k' n' : Int} {t y t' y' : ByteArray} {ok ok' : Bool} (h : AtmIs l k n t y ok) (g : AtmIs l k' n' t' y' ok') : ok = ok' ∧ k = k' ∧ n = n' ∧ t = t' ∧ y = y' := by
  cases ok with
  | true =>
    obtain ⟨a, b, c, d⟩ := h.yes rfl
    obtain ⟨e, p, q, r, s⟩ := g.all _ _ _ _ a c d b
    exact ⟨e.symm, p.symm, q.symm, r.symm, s.symm⟩
  | false =>
    cases ok' with
    | true =>
      obtain ⟨a, b, c, d⟩ := g.yes rfl
      have := (h.all _ _ _ _ a c d b).1
      cases this
    | false =>
      obtain ⟨a, b, c, d⟩ := h.zero rfl
      obtain ⟨a', b', c', d'⟩ := g.zero rfl
      exact ⟨rfl, by rw [a, a'], by rw [b, b'], by rw [c, c'], by rw [d, d']⟩
theorem atm_no {l : List UInt8} (h : ∀ (k' n' : Int) (t' y' : ByteArray), goodAtom k' n' t' y' = true → -9223372036854775808 ≤ n' → n' ≤ 9223372036854775807 → ¬ atomL k' n' t' y' = l) : AtmIs l 0 0 eB eB false :=
  ⟨fun h => (by cases h), fun k' n' t' y' a b c e => absurd e (h k' n' t' y' a b c), fun _ => ⟨rfl, rfl, rfl, rfl⟩⟩

set_option maxHeartbeats 4000000 in
theorem iReadAtom_any (s : ByteArray) (w : World) (hs : s.size ≤ 1048576) (hE : Env w) :
    Calls Tryz.prog 112 #[.string s] w fun e w' => AtmRet s.data.toList e ∧ Below w.heap.size w w' := by
  have b0 := bAl (Below.refl w.heap.size w) (.cells zAt 32)
  have q1 := hide (guessAtom_any s _ hs (hE.keep b0))
  have HE := hide (hE.keep b0)
  have R := hide (RowIs.new w zAt 32)
  have B0 := hide b0
  clear hE b0
  go_enter Tryz.func112, Tryz.ntmps112
  go_wp2_with fail
  refine (unhide q1).mono ?_
  rintro e w1 ⟨⟨k, n, t, y, rfl, hga⟩, hb1⟩
  have HG := hide hga
  obtain ⟨n0, n1, tz, yz, _⟩ := hga
  replace R := hide ((unhide R).keep hb1)
  replace HE := hide ((unhide HE).keep hb1)
  have B1 := hide (bTr (unhide B0) hb1)
  have tm : t.size ≤ maxLen := by unfold maxLen; omega
  have ym : y.size ≤ maxLen := by unfold maxLen; omega
  have q2 := hide (fun w => iGoodAtom_any k n t y w n1 tm ym)
  have q3 := hide (fun w h => iAtomText_any k n t y w n0 n1 tm ym h)
  have ltw := (unhide R).lt
  have ba := bAl (Below.refl w1.heap.size w1) (.cells #[.int .i64 k, .int .i64 n, .string t, .string y] 32)
  have RA := hide (RowIs.new w1 #[.int .i64 k, .int .i64 n, .string t, .string y] 32)
  replace R := hide ((unhide R).keep ba)
  replace HE := hide ((unhide HE).keep ba)
  have B2 := hide (bTr (unhide B1) ba)
  have ltr := (unhide RA).lt
  have nab : ¬ w1.heap.size = w.heap.size := by omega
  clear hb1 q1 B0 B1 ba
  go_wp2_with fail
  refine (unhide q2 _).mono ?_
  rintro e w2 ⟨rfl, hb2⟩
  replace R := hide ((unhide R).keep hb2)
  replace RA := hide ((unhide RA).keep hb2)
  replace HE := hide ((unhide HE).keep hb2)
  have B3 := hide (bTr (unhide B2) hb2)
  clear hb2 q2 B2
  cases hg : goodAtom k n t y with
  | false =>
    have ai := hide (atm_no (l := s.data.toList) (fun k' n' t' y' a b c e => by obtain ⟨rfl, rfl, rfl, rfl⟩ := (unhide HG).fit _ _ _ _ a b c e; rw [hg] at a; cases a))
    clear hg
    have j0 : w2.cell? ⟨w.heap.size, 0, none⟩ = some (.int .i64 0) := (unhide R).get rfl
    have j1 : w2.cell? ⟨w.heap.size, 1, none⟩ = some (.int .i64 0) := (unhide R).get rfl
    have j2 : w2.cell? ⟨w.heap.size, 2, none⟩ = some (.string ⟨#[]⟩) := (unhide R).get rfl
    have j3 : w2.cell? ⟨w.heap.size, 3, none⟩ = some (.string ⟨#[]⟩) := (unhide R).get rfl
    have f0 := (unhide R).frz 0
    have f1 := (unhide R).frz 1
    have f2 := (unhide R).frz 2
    have f3 := (unhide R).frz 3
    go_wp2_with fail
    refine bodyPost_ret (v := .tuple #[.agg #[.int .i64 0, .int .i64 0, .string ⟨#[]⟩, .string ⟨#[]⟩], .bool false]) (by simp [results, Tryz.results112, go_sem, j0, j1, j2, j3]) rfl ⟨⟨_, _, _, _, _, rfl, unhide ai⟩, ?_⟩
    first | exact unhide B3 | exact below_set (below_set (below_set (below_set (unhide B3) (Nat.le_refl _)) (Nat.le_refl _)) (Nat.le_refl _)) (Nat.le_refl _)
  | true =>
    have eT : atomT k n t y = ⟨(atomL k n t y).toArray⟩ := by unfold atomT; rw [if_pos hg]
    have HGD := hide hg
    rw [eT] at q3
    have HX := hide (show (⟨(atomL k n t y).toArray⟩ : ByteArray) = s ↔ atomL k n t y = s.data.toList from ⟨fun h => by rw [← h], fun h => by rw [h, mk_list]⟩)
    generalize (⟨(atomL k n t y).toArray⟩ : ByteArray) = X at q3 HX
    clear eT hg
    have d0 : w2.cell? ⟨w1.heap.size, 0, none⟩ = some (.int .i64 k) := (unhide RA).get rfl
    have d1 : w2.cell? ⟨w1.heap.size, 1, none⟩ = some (.int .i64 n) := (unhide RA).get rfl
    have d2 : w2.cell? ⟨w1.heap.size, 2, none⟩ = some (.string t) := (unhide RA).get rfl
    have d3 : w2.cell? ⟨w1.heap.size, 3, none⟩ = some (.string y) := (unhide RA).get rfl
    go_wp2_with fail
    refine (unhide q3 _ (unhide HE).tab).mono ?_
    rintro e w3 ⟨rfl, hb3⟩
    replace R := hide ((unhide R).keep hb3)
    replace RA := hide ((unhide RA).keep hb3)
    have B4 := hide (bTr (unhide B3) hb3)
    clear hb3 q3 B3 d0 d1 d2 d3
    by_cases hx : X = s
    · have ai := hide (show AtmIs s.data.toList k n t y true from ⟨fun _ => ⟨unhide HGD, (unhide HX).1 hx, n0, n1⟩, fun k' n' t' y' a b c e => ⟨rfl, (unhide HG).fit _ _ _ _ a b c e⟩, fun h => (by cases h)⟩)
      have hx2 : (X.toList == s.toList) = true := by rw [hx]; simp
      clear hx
      have j0 : w3.cell? ⟨w.heap.size, 0, none⟩ = some (.int .i64 0) := (unhide R).get rfl
      have j1 : w3.cell? ⟨w.heap.size, 1, none⟩ = some (.int .i64 0) := (unhide R).get rfl
      have j2 : w3.cell? ⟨w.heap.size, 2, none⟩ = some (.string ⟨#[]⟩) := (unhide R).get rfl
      have j3 : w3.cell? ⟨w.heap.size, 3, none⟩ = some (.string ⟨#[]⟩) := (unhide R).get rfl
      have f0 := (unhide R).frz 0
      have f1 := (unhide R).frz 1
      have f2 := (unhide R).frz 2
      have f3 := (unhide R).frz 3
      have d0 : w3.cell? ⟨w1.heap.size, 0, none⟩ = some (.int .i64 k) := (unhide RA).get rfl
      have d1 : w3.cell? ⟨w1.heap.size, 1, none⟩ = some (.int .i64 n) := (unhide RA).get rfl
      have d2 : w3.cell? ⟨w1.heap.size, 2, none⟩ = some (.string t) := (unhide RA).get rfl
      have d3 : w3.cell? ⟨w1.heap.size, 3, none⟩ = some (.string y) := (unhide RA).get rfl
      go_wp2_with fail
      refine bodyPost_ret (v := .tuple #[.agg #[.int .i64 k, .int .i64 n, .string t, .string y], .bool true]) (by simp [results, Tryz.results112, go_sem, j0, j1, j2, j3]) rfl ⟨⟨_, _, _, _, _, rfl, unhide ai⟩, ?_⟩
      first | exact unhide B4 | exact below_set (below_set (below_set (below_set (unhide B4) (Nat.le_refl _)) (Nat.le_refl _)) (Nat.le_refl _)) (Nat.le_refl _)
    · have ai := hide (atm_no (l := s.data.toList) (fun k' n' t' y' a b c e => by obtain ⟨rfl, rfl, rfl, rfl⟩ := (unhide HG).fit _ _ _ _ a b c e; exact hx ((unhide HX).2 e)))
      have hx2 : (X.toList == s.toList) = false := by simpa using str_neq hx
      clear hx
      have j0 : w3.cell? ⟨w.heap.size, 0, none⟩ = some (.int .i64 0) := (unhide R).get rfl
      have j1 : w3.cell? ⟨w.heap.size, 1, none⟩ = some (.int .i64 0) := (unhide R).get rfl
      have j2 : w3.cell? ⟨w.heap.size, 2, none⟩ = some (.string ⟨#[]⟩) := (unhide R).get rfl
      have j3 : w3.cell? ⟨w.heap.size, 3, none⟩ = some (.string ⟨#[]⟩) := (unhide R).get rfl
      have f0 := (unhide R).frz 0
      have f1 := (unhide R).frz 1
      have f2 := (unhide R).frz 2
      have f3 := (unhide R).frz 3
      go_wp2_with fail
      refine bodyPost_ret (v := .tuple #[.agg #[.int .i64 0, .int .i64 0, .string ⟨#[]⟩, .string ⟨#[]⟩], .bool false]) (by simp [results, Tryz.results112, go_sem, j0, j1, j2, j3]) rfl ⟨⟨_, _, _, _, _, rfl, unhide ai⟩, ?_⟩
      first | exact unhide B4 | exact below_set (below_set (below_set (below_set (unhide B4) (Nat.le_refl _)) (Nat.le_refl _)) (Nat.le_refl _)) (Nat.le_refl _)
end Go.Proofs.YticidjceljjfnaaGreatDoor
/- What spec.l1Guess does to bytes: the rest of the lemmas. -/
namespace Go.Proofs.YticidjceljjfnaaGreatDoor
open Go.RowKit
set_option maxRecDepth 20000

theorem ga_whole {l : List UInt8} {N : Int} (h0 : -9223372036854775808 ≤ N) (h1 : N ≤ 9223372036854775807) (e : l = Lib.itoa N) : GA l 2 N eB eB := by
  obtain ⟨c, r, ec, hc⟩ := itoa_cons N
  have hnc := itoa_nc N
  have nn := nc_not hc
  rw [e, ec]
  rw [ec] at hnc
  refine ga_num h0 h1 ⟨fun h => ?_, fun h => ?_⟩ nn.2.2.2.1 nn.2.2.2.2.1 (fun h => by rw [nn.2.2.2.2.2.2.2] at h; cases h) (fun h => (nc_not (hnc _ h)).2.1 rfl) (fun h => (nc_not (hnc _ h)).1 rfl) (fun n a b h => itoa_inj h0 h1 a b (by rw [ec, h]))
  · injection h with h; exact nn.2.2.2.2.2.1 h
  · injection h with h; exact nn.2.2.2.2.2.2.1 h

theorem ref_at {l : List UInt8} {k : Nat} (hk : k + 1 < l.length) (h1 : l[k] = 58) (hno : ∀ j (h : j + 1 < l.length), j < k → ¬ (l[j] = 58 ∧ l[j + 1] = 58)) {y t : List UInt8} (hy : (58 : UInt8) ∉ y) (e : l = y ++ 58 :: 58 :: quo t) : l.take k = y ∧ l.drop (k + 2) = quo t := by
  have hk2 : k = y.length := by
    apply Classical.byContradiction
    intro hne
    by_cases hlt : k < y.length
    · apply hy
      rw [← h1]
      subst e
      rw [List.getElem_append_left hlt]
      exact List.getElem_mem _
    · have hl : y.length + 1 < l.length := by rw [e]; simp [quo]
      refine hno y.length hl (by omega) ⟨?_, ?_⟩
      · subst e; simp
      · subst e; simp
  subst hk2
  subst e
  simp
theorem ref_no {l : List UInt8} {k : Nat} (hk : l.length ≤ k + 1) (hno : ∀ j (h : j + 1 < l.length), j < k → ¬ (l[j] = 58 ∧ l[j + 1] = 58)) (y t : List UInt8) : ¬ l = y ++ 58 :: 58 :: quo t := by
  intro e
  have hl : y.length + 1 < l.length := by rw [e]; simp [quo]
  refine hno y.length hl (by omega) ⟨?_, ?_⟩
  · subst e; simp
  · subst e; simp

/-- The parts so far. -/
def PI (l : List UInt8) (k f : Nat) (P : List (List UInt8)) : Prop := (k ≤ l.length ∧ f ≤ k ∧ P ++ sp (l.drop f) = sp l ∧ ∀ j (h : j < l.length), f ≤ j → j < k → sepB l[j] = false) ∨ (k = l.length + 1 ∧ P = sp l)
theorem pi_mid {l : List UInt8} {k f : Nat} (h : ∀ j (h : j < l.length), f ≤ j → j < k → sepB l[j] = false) : ∀ x ∈ (l.drop f).take (k - f), sepB x = false := by
  intro x hx
  obtain ⟨i, hi, rfl⟩ := List.getElem_of_mem hx
  rw [List.length_take, List.length_drop] at hi
  rw [List.getElem_take, List.getElem_drop]
  exact h (f + i) (by omega) (by omega) (by omega)
theorem PI.hit {l : List UInt8} {k f : Nat} {P : List (List UInt8)} (h : PI l k f P) (hk : k < l.length) (hs : sepB l[k] = true) : PI l (k + 1) (k + 1) (P ++ [(l.drop f).take (k - f)]) := by
  rcases h with ⟨_, h2, h3, h4⟩ | ⟨h1, _⟩
  · refine .inl ⟨by omega, Nat.le_refl _, ?_, fun j _ a b => by omega⟩
    have e : l.drop f = (l.drop f).take (k - f) ++ l[k] :: l.drop (k + 1) := by
      have e1 := List.take_append_drop (k - f) (l.drop f)
      rw [List.drop_drop, show f + (k - f) = k by omega, List.drop_eq_getElem_cons hk] at e1
      exact e1.symm
    rw [← h3, show sp (l.drop f) = (l.drop f).take (k - f) :: sp (l.drop (k + 1)) by rw [congrArg sp e]; exact sp_app _ _ _ (pi_mid h4) hs]
    simp
  · omega
theorem PI.miss {l : List UInt8} {k f : Nat} {P : List (List UInt8)} (h : PI l k f P) (hk : k < l.length) (hs : sepB l[k] = false) : PI l (k + 1) f P := by
  rcases h with ⟨_, h2, h3, h4⟩ | ⟨h1, _⟩
  · refine .inl ⟨by omega, by omega, h3, fun j hj a b => ?_⟩
    rcases Nat.lt_succ_iff_lt_or_eq.1 b with b | rfl
    · exact h4 j hj a b
    · exact hs
  · omega
theorem PI.last {l : List UInt8} {k f : Nat} {P : List (List UInt8)} (h : PI l k f P) (hk : k = l.length) : PI l (k + 1) (k + 1) (P ++ [(l.drop f).take (k - f)]) := by
  rcases h with ⟨_, h2, h3, h4⟩ | ⟨h1, _⟩
  · refine .inr ⟨by omega, ?_⟩
    have e : (l.drop f).take (k - f) = l.drop f := List.take_of_length_le (by rw [List.length_drop]; omega)
    have := pi_mid h4
    rw [e] at this
    rw [e, ← h3, sp_last _ this]
  · omega
theorem PI.le {l : List UInt8} {k f : Nat} {P : List (List UInt8)} (h : PI l k f P) (hk : k ≤ l.length) : f ≤ k := by
  rcases h with ⟨_, h2, _⟩ | ⟨h1, _⟩
  · exact h2
  · omega
theorem mid_bytes (s : ByteArray) (f k : Nat) : s.extract f k = ⟨((s.data.toList.drop f).take (k - f)).toArray⟩ := by
  apply ByteArray.ext
  apply Array.toList_inj.1
  simp [ByteArray.data_extract]

end Go.Proofs.YticidjceljjfnaaGreatDoor
