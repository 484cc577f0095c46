/- ARs, BPur, one behind the other. -/
import Derived.Test.YticidjceljjfnaaGreatDoorJ30
import Derived.Test.YticidjceljjfnaaGreatDoorJ22
/- spec.ReadAtom. -/
namespace Go.Proofs.YticidjceljjfnaaGreatDoor
open Go.RowKit
set_option maxRecDepth 20000

theorem qs_le : ∀ l : List UInt8, (qs l).length ≤ 2 * l.length
  | [] => by simp [qs]
  | c :: l => by
    have ih := qs_le l
    have e : qs (c :: l) = qb c ++ qs l := by simp [qs]
    rw [e, List.length_append, List.length_cons]
    have : (qb c).length ≤ 2 := by unfold qb; split <;> simp
    omega
theorem quo_le (t : ByteArray) (h : t.size ≤ 200) : (quo t.data.toList).length ≤ 402 := by
  have := qs_le t.data.toList
  have l1 : t.data.toList.length = t.size := by simp
  unfold quo
  simp only [List.length_cons, List.length_append, List.length_nil]
  omega
/-- A good atom's text has at most 500 bytes. -/
theorem atom_500 {k n : Int} {t y : ByteArray} (hg : goodAtom k n t y = true) (h0 : -9223372036854775808 ≤ n) (h1 : n ≤ 9223372036854775807) : (atomL k n t y).length ≤ 500 := by
  have hs := shape hg
  generalize atomL k n t y = l at hs
  cases hs with
  | tru _ _ _ _ l => rw [l]; decide
  | fal _ _ _ _ l => rw [l]; decide
  | num _ _ _ l => rw [l]; have := itoa_len20 n h0 h1; omega
  | txt hk _ _ l =>
    have ht : t.size ≤ 200 := by subst hk; unfold goodAtom gText at hg; simp at hg; omega
    rw [l]; have := quo_le t ht; omega
  | ref hk _ _ l =>
    subst hk
    have ht : t.size ≤ 200 := by unfold goodAtom gText at hg; simp at hg; omega
    have hy := good_type hg
    rw [l, List.length_append, List.length_cons, List.length_cons]
    have := quo_le t ht
    have l1 : y.data.toList.length = y.size := by simp
    omega
  | dec _ _ _ l =>
    rw [l]
    have h2 := dig_len n h0 h1
    have h3 := padL_len (Lib.decDigits n.natAbs)
    unfold decL dotL
    rw [List.length_append, List.length_append, List.length_cons, List.length_take, List.length_drop]
    have : (if n < 0 then [45] else [] : List UInt8).length ≤ 1 := by split <;> simp
    omega
  | adr _ _ _ b1 b2 b3 b4 l =>
    rw [l]
    have hh : ∀ m : Int, 0 ≤ m → m ≤ 255 → (Lib.itoa m).length ≤ 20 := fun m a b => (itoa_len20 m (by omega) (by omega)).2
    have x1 := hh (n / 64 / 16777216) (by omega) (by omega)
    have x2 := hh (n / 64 / 65536 % 256) (by omega) (by omega)
    have x3 := hh (n / 64 / 256 % 256) (by omega) (by omega)
    have x4 := hh (n / 64 % 256) (by omega) (by omega)
    have x5 := hh (n % 64) (by omega) (by omega)
    unfold blkL four
    simp only [List.map_cons, List.map_nil, Lib.join, List.intercalate, List.intersperse, List.flatten_cons, List.flatten_nil, List.length_append, List.length_cons, List.length_nil]
    omega
  | tim _ _ _ l => rw [l, List.length_cons]; have := itoa_len20 n h0 h1; omega

set_option maxHeartbeats 4000000 in
theorem sReadAtom_any (s : ByteArray) (w : World) (hs : s.size ≤ 1048576) :
    Calls Tryz.prog 49 #[.string s] w fun e w' => AtmRet s.data.toList e ∧ Below w.heap.size w w' := by
  have b0 := bAl (Below.refl w.heap.size w) (.cells zAt 32)
  have R := hide (RowIs.new w zAt 32)
  have B0 := hide b0
  have zl : s.data.toList.length = s.size := by simp
  clear b0
  by_cases h0 : s.size = 0
  · have ai := hide (atm_no (l := s.data.toList) (fun k' n' t' y' a b c e => by obtain ⟨c, r, e2⟩ := atomL_cons a b c; rw [e2] at e; rw [← e] at zl; simp at zl; omega))
    go_enter Tryz.func49, Tryz.ntmps49
    go_wp2_with fail
    refine bodyPost_ret (v := .tuple #[.agg #[.int .i64 0, .int .i64 0, .string ⟨#[]⟩, .string ⟨#[]⟩], .bool false]) (by simp [results, Tryz.results49, go_sem]) rfl ⟨⟨_, _, _, _, _, rfl, unhide ai⟩, ?_⟩
    exact unhide B0
  by_cases h5 : 500 < s.size
  · have ai := hide (atm_no (l := s.data.toList) (fun k' n' t' y' a b c e => by have := atom_500 a b c; rw [e] at this; omega))
    go_enter Tryz.func49, Tryz.ntmps49
    go_wp2_with fail
    refine bodyPost_ret (v := .tuple #[.agg #[.int .i64 0, .int .i64 0, .string ⟨#[]⟩, .string ⟨#[]⟩], .bool false]) (by simp [results, Tryz.results49, go_sem]) rfl ⟨⟨_, _, _, _, _, rfl, unhide ai⟩, ?_⟩
    exact unhide B0
  have q1 := hide (fun w => l1Guess_any s w (by omega) (by omega))
  have g0 : ((s.size : Int) == 0) = false := by rw [beq_eq_false_iff_ne]; omega
  have g5 : decide (500 < (s.size : Int)) = false := by simp; omega
  go_enter Tryz.func49, Tryz.ntmps49
  go_wp2_with fail
  refine (unhide q1 _).mono ?_
  rintro e w1 ⟨⟨k, n, t, y, rfl, hga⟩, hb1⟩
  have HG := hide hga
  obtain ⟨n0, n1, tz, yz, _⟩ := hga
  replace R := hide ((unhide R).keep hb1)
  have B1 := hide (bTr (unhide B0) hb1)
  have tm : t.size ≤ maxLen := by unfold maxLen; omega
  have ym : y.size ≤ maxLen := by unfold maxLen; omega
  have q2 := hide (fun w => sGoodAtom_any k n t y w n1 tm ym)
  have q3 := hide (fun w h => l1Text_any k n t y w n0 n1 h)
  have ltw := (unhide R).lt
  have ba := bAl (Below.refl w1.heap.size w1) (.cells #[.int .i64 k, .int .i64 n, .string t, .string y] 32)
  have RA := hide (RowIs.new w1 #[.int .i64 k, .int .i64 n, .string t, .string y] 32)
  replace R := hide ((unhide R).keep ba)
  have B2 := hide (bTr (unhide B1) ba)
  have ltr := (unhide RA).lt
  have nab : ¬ w1.heap.size = w.heap.size := by omega
  clear hb1 q1 B0 B1 ba
  go_wp2_with fail
  refine (unhide q2 _).mono ?_
  rintro e w2 ⟨rfl, hb2⟩
  replace R := hide ((unhide R).keep hb2)
  replace RA := hide ((unhide RA).keep hb2)
  have B3 := hide (bTr (unhide B2) hb2)
  clear hb2 q2 B2
  cases hg : goodAtom k n t y with
  | false =>
    have ai := hide (atm_no (l := s.data.toList) (fun k' n' t' y' a b c e => by obtain ⟨rfl, rfl, rfl, rfl⟩ := (unhide HG).fit _ _ _ _ a b c e; rw [hg] at a; cases a))
    clear hg
    have j0 : w2.cell? ⟨w.heap.size, 0, none⟩ = some (.int .i64 0) := (unhide R).get rfl
    have j1 : w2.cell? ⟨w.heap.size, 1, none⟩ = some (.int .i64 0) := (unhide R).get rfl
    have j2 : w2.cell? ⟨w.heap.size, 2, none⟩ = some (.string ⟨#[]⟩) := (unhide R).get rfl
    have j3 : w2.cell? ⟨w.heap.size, 3, none⟩ = some (.string ⟨#[]⟩) := (unhide R).get rfl
    have f0 := (unhide R).frz 0
    have f1 := (unhide R).frz 1
    have f2 := (unhide R).frz 2
    have f3 := (unhide R).frz 3
    go_wp2_with fail
    refine bodyPost_ret (v := .tuple #[.agg #[.int .i64 0, .int .i64 0, .string ⟨#[]⟩, .string ⟨#[]⟩], .bool false]) (by simp [results, Tryz.results49, go_sem, j0, j1, j2, j3]) rfl ⟨⟨_, _, _, _, _, rfl, unhide ai⟩, ?_⟩
    first | exact unhide B3 | exact below_set (below_set (below_set (below_set (unhide B3) (Nat.le_refl _)) (Nat.le_refl _)) (Nat.le_refl _)) (Nat.le_refl _)
  | true =>
    have HGD := hide hg
    have HX := hide (show (⟨(atomL k n t y).toArray⟩ : ByteArray) = s ↔ atomL k n t y = s.data.toList from ⟨fun h => by rw [← h], fun h => by rw [h, mk_list]⟩)
    generalize (⟨(atomL k n t y).toArray⟩ : ByteArray) = X at q3 HX
    clear hg
    have d0 : w2.cell? ⟨w1.heap.size, 0, none⟩ = some (.int .i64 k) := (unhide RA).get rfl
    have d1 : w2.cell? ⟨w1.heap.size, 1, none⟩ = some (.int .i64 n) := (unhide RA).get rfl
    have d2 : w2.cell? ⟨w1.heap.size, 2, none⟩ = some (.string t) := (unhide RA).get rfl
    have d3 : w2.cell? ⟨w1.heap.size, 3, none⟩ = some (.string y) := (unhide RA).get rfl
    go_wp2_with fail
    refine (unhide q3 _ (unhide HGD)).mono ?_
    rintro e w3 ⟨rfl, hb3⟩
    replace R := hide ((unhide R).keep hb3)
    replace RA := hide ((unhide RA).keep hb3)
    have B4 := hide (bTr (unhide B3) hb3)
    clear hb3 q3 B3 d0 d1 d2 d3
    by_cases hx : X = s
    · have ai := hide (show AtmIs s.data.toList k n t y true from ⟨fun _ => ⟨unhide HGD, (unhide HX).1 hx, n0, n1⟩, fun k' n' t' y' a b c e => ⟨rfl, (unhide HG).fit _ _ _ _ a b c e⟩, fun h => (by cases h)⟩)
      have hx2 : (X.toList == s.toList) = true := by rw [hx]; simp
      clear hx
      have j0 : w3.cell? ⟨w.heap.size, 0, none⟩ = some (.int .i64 0) := (unhide R).get rfl
      have j1 : w3.cell? ⟨w.heap.size, 1, none⟩ = some (.int .i64 0) := (unhide R).get rfl
      have j2 : w3.cell? ⟨w.heap.size, 2, none⟩ = some (.string ⟨#[]⟩) := (unhide R).get rfl
      have j3 : w3.cell? ⟨w.heap.size, 3, none⟩ = some (.string ⟨#[]⟩) := (unhide R).get rfl
      have f0 := (unhide R).frz 0
      have f1 := (unhide R).frz 1
      have f2 := (unhide R).frz 2
      have f3 := (unhide R).frz 3
      have d0 : w3.cell? ⟨w1.heap.size, 0, none⟩ = some (.int .i64 k) := (unhide RA).get rfl
      have d1 : w3.cell? ⟨w1.heap.size, 1, none⟩ = some (.int .i64 n) := (unhide RA).get rfl
      have d2 : w3.cell? ⟨w1.heap.size, 2, none⟩ = some (.string t) := (unhide RA).get rfl
      have d3 : w3.cell? ⟨w1.heap.size, 3, none⟩ = some (.string y) := (unhide RA).get rfl
      go_wp2_with fail
      refine bodyPost_ret (v := .tuple #[.agg #[.int .i64 k, .int .i64 n, .string t, .string y], .bool true]) (by simp [results, Tryz.results49, go_sem, j0, j1, j2, j3]) rfl ⟨⟨_, _, _, _, _, rfl, unhide ai⟩, ?_⟩
      first | exact unhide B4 | exact below_set (below_set (below_set (below_set (unhide B4) (Nat.le_refl _)) (Nat.le_refl _)) (Nat.le_refl _)) (Nat.le_refl _)
    · have ai := hide (atm_no (l := s.data.toList) (fun k' n' t' y' a b c e => by obtain ⟨rfl, rfl, rfl, rfl⟩ := (unhide HG).fit _ _ _ _ a b c e; exact hx ((unhide HX).2 e)))
      have hx2 : (X.toList == s.toList) = false := by simpa using str_neq hx
      clear hx
      have j0 : w3.cell? ⟨w.heap.size, 0, none⟩ = some (.int .i64 0) := (unhide R).get rfl
      have j1 : w3.cell? ⟨w.heap.size, 1, none⟩ = some (.int .i64 0) := (unhide R).get rfl
      have j2 : w3.cell? ⟨w.heap.size, 2, none⟩ = some (.string ⟨#[]⟩) := (unhide R).get rfl
      have j3 : w3.cell? ⟨w.heap.size, 3, none⟩ = some (.string ⟨#[]⟩) := (unhide R).get rfl
      have f0 := (unhide R).frz 0
      have f1 := (unhide R).frz 1
      have f2 := (unhide R).frz 2
      have f3 := (unhide R).frz 3
      go_wp2_with fail
      refine bodyPost_ret (v := .tuple #[.agg #[.int .i64 0, .int .i64 0, .string ⟨#[]⟩, .string ⟨#[]⟩], .bool false]) (by simp [results, Tryz.results49, go_sem, j0, j1, j2, j3]) rfl ⟨⟨_, _, _, _, _, rfl, unhide ai⟩, ?_⟩
      first | exact unhide B4 | exact below_set (below_set (below_set (below_set (unhide B4) (Nat.le_refl _)) (Nat.le_refl _)) (Nat.le_refl _)) (Nat.le_refl _)
end Go.Proofs.YticidjceljjfnaaGreatDoor
/- Parts of a value's text between commas: pure. -/
namespace Go.Proofs.YticidjceljjfnaaGreatDoor.V
open Go.RowKit

/-- How far the first item goes: to a comma out of quotes. -/
def cutAt : Bool → List UInt8 → Nat
  | _, [] => 0
  | q, [c] => if c = 92 ∧ q = true then 1 else if c = 34 then 1 else if c = 44 ∧ q = false then 0 else 1
  | q, c :: d :: t => if c = 92 ∧ q = true then 2 + cutAt true t else if c = 34 then 1 + cutAt (!q) (d :: t) else if c = 44 ∧ q = false then 0 else 1 + cutAt q (d :: t)
theorem cut_nil (q : Bool) : cutAt q [] = 0 := by cases q <;> rfl
theorem cut_esc (d : UInt8) (t : List UInt8) : cutAt true (92 :: d :: t) = 2 + cutAt true t := by simp [cutAt]
theorem cut_quo (q : Bool) (t : List UInt8) : cutAt q (34 :: t) = 1 + cutAt (!q) t := by
  cases t with
  | nil => cases q <;> rfl
  | cons d t => simp [cutAt]
theorem cut_com (t : List UInt8) : cutAt false (44 :: t) = 0 := by
  cases t with
  | nil => rfl
  | cons d t => simp [cutAt]
theorem cut_else {q : Bool} {c : UInt8} (t : List UInt8) (h1 : ¬ (c = 92 ∧ q = true)) (h2 : ¬ c = 34) (h3 : ¬ (c = 44 ∧ q = false)) : cutAt q (c :: t) = 1 + cutAt q t := by
  cases t with
  | nil => simp only [cutAt]; rw [if_neg h1, if_neg h2, if_neg h3]
  | cons d t => simp only [cutAt]; rw [if_neg h1, if_neg h2, if_neg h3]
theorem cut_le : ∀ (l : List UInt8) (q : Bool), cutAt q l ≤ l.length
  | [], q => by rw [cut_nil]; exact Nat.le_refl _
  | [c], q => by unfold cutAt; split <;> (try split) <;> (try split) <;> simp
  | c :: d :: t, q => by
    have h1 := cut_le t true
    have h2 := cut_le (d :: t) (!q)
    have h3 := cut_le (d :: t) q
    simp only [List.length_cons] at h2 h3 ⊢
    unfold cutAt
    split
    · omega
    split
    · omega
    split
    · omega
    · omega

/-- What is gone through to its end, out of quotes. -/
def Pass (p : List UInt8) : Prop := ∀ r, cutAt false (p ++ r) = p.length + cutAt false r
theorem Pass.app {p q : List UInt8} (hp : Pass p) (hq : Pass q) : Pass (p ++ q) := fun r => by
  rw [List.append_assoc, hp, hq, List.length_append]; omega
theorem pass_plain : ∀ p : List UInt8, (∀ c ∈ p, ¬ c = 34 ∧ ¬ c = 44) → Pass p
  | [], _ => fun r => by simp
  | c :: p, h => fun r => by
    have ih := pass_plain p (fun x hx => h x (List.mem_cons_of_mem _ hx)) r
    have hc := h c (by simp)
    rw [List.cons_append, cut_else _ (by simp) hc.1 (fun e => hc.2 e.1), ih, List.length_cons]; omega
theorem cut_qs : ∀ (t r : List UInt8), cutAt true (qs t ++ 34 :: r) = (qs t).length + 1 + cutAt false r
  | [], r => by
    show cutAt true (34 :: r) = _
    rw [cut_quo]; simp [qs]
  | c :: t, r => by
    have ih := cut_qs t r
    have e : qs (c :: t) = qb c ++ qs t := by simp [qs]
    rw [e, List.append_assoc, List.length_append]
    unfold qb
    split
    · show cutAt true (92 :: c :: (qs t ++ 34 :: r)) = _
      rw [cut_esc, ih]
      show _ = 2 + _ + _ + _
      omega
    · rename_i hc
      show cutAt true (c :: (qs t ++ 34 :: r)) = _
      rw [cut_else _ (fun e => hc (.inr e.1)) (fun e => hc (.inl e)) (by simp), ih]
      show _ = 1 + _ + _ + _
      omega
theorem pass_quo (t : List UInt8) : Pass (quo t) := fun r => by
  unfold quo
  rw [List.cons_append, List.append_assoc, cut_quo]
  show 1 + cutAt true (qs t ++ 34 :: r) = _
  rw [cut_qs]
  simp only [List.length_cons, List.length_append, List.length_nil]
  omega
theorem nc_plain {c : UInt8} (h : NC c) : ¬ c = 34 ∧ ¬ c = 44 := by
  rcases h with rfl | h
  · exact ⟨by decide, by decide⟩
  · unfold Dig at h
    exact ⟨fun e => by rw [e] at h; exact absurd h (by decide), fun e => by rw [e] at h; exact absurd h (by decide)⟩
theorem okc_plain {c : UInt8} (h : okcB c = true) : ¬ c = 34 ∧ ¬ c = 44 ∧ ¬ c = 58 := by
  refine ⟨fun e => ?_, fun e => ?_, fun e => ?_⟩ <;> (rw [e] at h; exact absurd h (by decide))
theorem pass_name {y : ByteArray} (h : goodName y = true) : Pass y.data.toList := pass_plain _ (fun c hc => ⟨(okc_plain ((name_parts h).2 c hc)).1, (okc_plain ((name_parts h).2 c hc)).2.1⟩)
theorem pass_itoa (n : Int) : Pass (Lib.itoa n) := pass_plain _ (fun c hc => nc_plain (itoa_nc n c hc))
theorem pass_one {c : UInt8} (h1 : ¬ c = 34) (h2 : ¬ c = 44) : Pass [c] := pass_plain _ (fun x hx => by rw [List.mem_singleton] at hx; subst hx; exact ⟨h1, h2⟩)
/-- A good atom's text is gone through. -/
theorem pass_atom {k n : Int} {t y : ByteArray} (hg : goodAtom k n t y = true) (h0 : -9223372036854775808 ≤ n) (h1 : n ≤ 9223372036854775807) : Pass (atomL k n t y) := by
  have hs := shape hg
  generalize atomL k n t y = l at hs
  cases hs with
  | tru _ _ _ _ l => rw [l]; exact pass_plain _ (by decide)
  | fal _ _ _ _ l => rw [l]; exact pass_plain _ (by decide)
  | num _ _ _ l => rw [l]; exact pass_itoa n
  | txt _ _ _ l => rw [l]; exact pass_quo _
  | ref _ _ hy l =>
    have e : y.data.toList ++ 58 :: 58 :: quo t.data.toList = (y.data.toList ++ [58, 58]) ++ quo t.data.toList := by simp
    rw [l, e]
    exact ((pass_name hy).app (pass_plain _ (by decide))).app (pass_quo _)
  | dec _ _ _ l =>
    obtain ⟨A, B, e, hA, hB, _⟩ := dec_parts n h0 h1
    have e2 : A ++ 46 :: B = (A ++ [46]) ++ B := by simp
    rw [l, e, e2]
    exact ((pass_plain _ (fun c hc => nc_plain (hA c hc))).app (pass_one (by decide) (by decide))).app (pass_plain _ (fun c hc => nc_plain (dig_nc (hB c hc))))
  | adr _ _ _ b1 b2 b3 b4 l =>
    obtain ⟨A, e, hA, _⟩ := blk_parts (n / 64) (n % 64)
    have e2 : A ++ 47 :: Lib.itoa (n % 64) = (A ++ [47]) ++ Lib.itoa (n % 64) := by simp
    rw [l, e, e2]
    refine ((pass_plain _ (fun c hc => ?_)).app (pass_one (by decide) (by decide))).app (pass_itoa _)
    rcases hA c hc with h | h
    · exact nc_plain h
    · subst h; exact ⟨by decide, by decide⟩
  | tim _ _ _ l =>
    have e : (64 :: Lib.itoa n : List UInt8) = [64] ++ Lib.itoa n := rfl
    rw [l, e]
    exact (pass_one (by decide) (by decide)).app (pass_itoa n)

/-- Pieces that a text is made of, with commas between. -/
structure Fits (s : List UInt8) (L : List (List UInt8)) : Prop where
  len : 1 ≤ L.length ∧ L.length ≤ 50
  each : ∀ p ∈ L, Pass p ∧ p ≠ []
  is : Lib.join L [44] = s
theorem join_one (p : List UInt8) (s : List UInt8) : Lib.join [p] s = p := by simp [Lib.join, List.intercalate]
theorem join_two (p q : List UInt8) (L : List (List UInt8)) (s : List UInt8) : Lib.join (p :: q :: L) s = p ++ (s ++ Lib.join (q :: L) s) := by simp [Lib.join, List.intercalate]
/-- The first piece, and the rest. -/
theorem cut_first {p : List UInt8} (hp : Pass p) (L : List (List UInt8)) : cutAt false (Lib.join (p :: L) [44]) = p.length := by
  cases L with
  | nil =>
    rw [join_one]
    have := hp []
    rw [List.append_nil, cut_nil] at this
    exact this
  | cons q L =>
    rw [join_two, hp]
    show _ + cutAt false (44 :: _) = _
    rw [cut_com]; omega
theorem join_take (p : List UInt8) (L : List (List UInt8)) : (Lib.join (p :: L) [44]).take p.length = p := by
  cases L with
  | nil => rw [join_one]; simp
  | cons q L => rw [join_two]; simp
theorem join_drop (p : List UInt8) (L : List (List UInt8)) : (Lib.join (p :: L) [44]).drop (p.length + 1) = Lib.join L [44] := by
  cases L with
  | nil => rw [join_one]; simp [Lib.join, List.intercalate]
  | cons q L =>
    rw [join_two, List.drop_append, List.drop_eq_nil_of_le (by omega)]
    simp
theorem join_nil {L : List (List UInt8)} (h : ∀ p ∈ L, p ≠ []) (e : Lib.join L [44] = []) : L = [] := by
  cases L with
  | nil => rfl
  | cons p L =>
    exfalso
    have hp := h p (by simp)
    cases L with
    | nil => rw [join_one] at e; exact hp e
    | cons q L =>
      rw [join_two] at e
      have := congrArg List.length e
      simp at this
theorem join_len1 (p : List UInt8) (L : List (List UInt8)) : p.length ≤ (Lib.join (p :: L) [44]).length := by
  cases L with
  | nil => rw [join_one]; exact Nat.le_refl _
  | cons q L => rw [join_two]; simp
end Go.Proofs.YticidjceljjfnaaGreatDoor.V
