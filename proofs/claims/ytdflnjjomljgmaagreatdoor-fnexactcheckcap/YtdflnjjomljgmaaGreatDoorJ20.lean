/- WTxt, KXa, one behind the other. -/
import Derived.Test.YtdflnjjomljgmaaGreatDoorJ19
import Derived.Test.YtdflnjjomljgmaaGreatDoorJ15
import Derived.Lib.Join
import Derived.Test.YtdflnjjomljgmaaGreatDoorRTer
import Derived.Deep.RegionHeld3
/- The text of a value, as bytes. -/
namespace Go.Proofs.YtdflnjjomljgmaaGreatDoor.V
open Go.RowKit

def AtomT.l (a : AtomT) : List UInt8 := atomL a.x a.n a.t a.y
theorem atomL_len {k n : Int} {t ty : ByteArray} (h8 : -9223372036854775808 ≤ n) (h9 : n ≤ 9223372036854775807) (hg : goodAtom k n t ty = true) : (atomL k n t ty).length ≤ 1100 := by
  have hi := Lib.itoa_length_le n h8 h9
  have hd := dig_len n h8 h9
  unfold atomL
  split
  · split <;> decide
  split
  · rename_i _ h3; exact Nat.le_trans (quo_len t (good_text hg (.inl h3))) (by decide)
  split
  · rename_i _ _ h4
    subst h4
    have a := quo_len t (good_text hg (.inr rfl))
    have b := good_type hg
    have b' : ty.data.toList.length ≤ 30 := b
    simp only [List.length_append, List.length_cons, List.length_nil]
    omega
  split
  · unfold decL dotL
    have p := padL_len (Lib.decDigits n.natAbs)
    simp only [List.length_append, List.length_cons, List.length_take, List.length_drop]
    split
    all_goals simp only [List.length_cons, List.length_nil]; omega
  split
  · rename_i _ _ _ _ h6
    subst h6
    obtain ⟨a0, a1, a2⟩ := good_addr hg
    have f : ∀ x ∈ (four (n / 64)).map Lib.itoa, x.length ≤ 21 := by
      intro x hx
      obtain ⟨m, hm, rfl⟩ := List.mem_map.1 hx
      simp only [four, List.mem_cons, List.not_mem_nil, or_false] at hm
      rcases hm with rfl | rfl | rfl | rfl <;> exact Lib.itoa_length_le _ (by omega) (by omega)
    have j := inter_len 21 _ f
    have z := Lib.itoa_length_le (n % 64) (by omega) (by omega)
    unfold blkL
    simp only [List.length_append, List.length_cons]
    simp only [List.length_map, four, List.length_cons, List.length_nil] at j ⊢
    omega
  split
  · simp only [List.length_cons]; omega
  · omega
theorem AtomT.l_len {a : AtomT} (h : a.Ok) (hg : a.good = true) : a.l.length ≤ 1100 := atomL_len h.n8 h.n9 hg

/-- What stands between the commas. -/
def pieces (v : ValT) : List (List UInt8) := if v.k = 3 then List.zipWith (fun n a => n.data.toList ++ 58 :: AtomT.l a) v.names v.items else v.items.map AtomT.l
def valL (v : ValT) : List UInt8 :=
  if v.k = 1 then v.a.l else if v.k = 3 then 123 :: (Lib.join (pieces v) [44] ++ [125]) else 91 :: (Lib.join (pieces v) [44] ++ [93])

theorem join_step {L : List (List UInt8)} {k : Nat} {y s : List UInt8} (h : L[k]? = some y) (hk : 0 < k) : Lib.join (L.take (k + 1)) s = Lib.join (L.take k) s ++ s ++ y := by
  obtain ⟨j, rfl⟩ : ∃ j, k = j + 1 := ⟨k - 1, by omega⟩
  cases L with
  | nil => simp at h
  | cons x r =>
    simp only [List.getElem?_cons_succ] at h
    rw [List.take_succ_cons, List.take_succ_cons, Lib.join_cons, Lib.join_cons, Lib.joinTail_take_succ s r j y h]
    simp
theorem join_first {L : List (List UInt8)} {y s : List UInt8} (h : L[0]? = some y) : Lib.join (L.take 1) s = y := by
  cases L with
  | nil => simp at h
  | cons x r =>
    simp only [List.getElem?_cons_zero, Option.some.injEq] at h
    subst h
    exact Lib.join_one _ _
theorem join_bound (s : List UInt8) (hs : s.length = 1) (m : Nat) : ∀ L : List (List UInt8), (∀ x ∈ L, x.length ≤ m) → (Lib.join L s).length ≤ (m + 1) * L.length
  | [], _ => by simp [Lib.join, List.intercalate]
  | [a], h => by
    have := h a (by simp)
    simp [Lib.join, List.intercalate]
    omega
  | a :: b :: L, h => by
    have ih := join_bound s hs m (b :: L) (fun x hx => h x (List.mem_cons_of_mem _ hx))
    have := h a (by simp)
    simp [Lib.join, List.intercalate, Nat.mul_add, hs] at ih ⊢
    omega
theorem name_len {s : ByteArray} (h : goodName s = true) : s.size ≤ 30 := by
  have : nameL s.data.toList = true := h
  unfold nameL at this
  simp at this
  have e : s.data.toList.length = s.size := rfl
  simp at e
  omega
theorem retB_no {e : Ending} {p : Prop} (h : RetB e p) (hp : ¬ p) : e = .returned (.bool false) := by
  obtain ⟨b, rfl, hb⟩ := h
  cases b
  · rfl
  · exact absurd (hb.1 rfl) hp
theorem retB_yes {e : Ending} {p : Prop} (h : RetB e p) (hp : p) : e = .returned (.bool true) := by
  obtain ⟨b, rfl, hb⟩ := h
  rw [hb.2 hp]
end Go.Proofs.YtdflnjjomljgmaaGreatDoor.V
/- l17Term, isCapTerm, TermText on both sides. -/
namespace Go.Proofs.YtdflnjjomljgmaaGreatDoor.V
open Go.RowKit
set_option maxRecDepth 20000

/-- What stands at each Op. -/
structure Signs (w : World) : Prop where
  z : 0 < w.heap.size
  c0 : w.cell? ⟨0, 0, none⟩ = some (.string ⟨#[]⟩)
  c1 : w.cell? ⟨0, 1, none⟩ = some (.string ⟨#[61, 61]⟩)
  c2 : w.cell? ⟨0, 2, none⟩ = some (.string ⟨#[60]⟩)
  c3 : w.cell? ⟨0, 3, none⟩ = some (.string ⟨#[60, 61]⟩)
  c4 : w.cell? ⟨0, 4, none⟩ = some (.string ⟨#[105, 110]⟩)
theorem Signs.keep {w w1 : World} (h : Signs w) (hb : Below w.heap.size w w1) : Signs w1 := ⟨Nat.lt_of_lt_of_le h.z hb.size, cellB hb h.z h.c0, cellB hb h.z h.c1, cellB hb h.z h.c2, cellB hb h.z h.c3, cellB hb h.z h.c4⟩
def sgn (op : Int) : ByteArray := if op = 1 then ⟨#[61, 61]⟩ else if op = 2 then ⟨#[60]⟩ else if op = 3 then ⟨#[60, 61]⟩ else ⟨#[105, 110]⟩
def opC (op k : Int) : Bool := (((op == 1) || (op == 2) || (op == 3)) && ((k == 2) || (k == 3) || (k == 5) || (k == 7))) || ((op == 4) && (k == 6))
def termB (x : CavTermT) : Bool := goodName x.f0 && x.f2.toList.isEmpty && goodAtom x.f3 x.f4 x.f5 x.f6 && opC x.f1 x.f3
def sp1 : ByteArray := ⟨#[32]⟩
def termL (x : CavTermT) : ByteArray := x.f0 ++ sp1 ++ sgn x.f1 ++ sp1 ++ ⟨(atomL x.f3 x.f4 x.f5 x.f6).toArray⟩
def termX (x : CavTermT) : ByteArray := if termB x = true then termL x else ⟨#[]⟩
def opOkX (op k : Int) : Bool := (op == 1) || (((op == 2) || (op == 3)) && ((k == 2) || (k == 3) || (k == 5) || (k == 7))) || ((op == 4) && (k == 6))

set_option maxHeartbeats 400000 in
theorem opTakesX_any (O K : Int) (w : World) :
    Calls Tryz.prog 78 #[.int .i64 O, .int .i64 K] w fun e w' => e = .returned (.bool (opOkX O K)) ∧ w = w' := by
  rcases (by omega : O = 1 ∨ O = 2 ∨ O = 3 ∨ O = 4 ∨ (O ≠ 1 ∧ O ≠ 2 ∧ O ≠ 3 ∧ O ≠ 4)) with rfl | rfl | rfl | rfl | ⟨o1, o2, o3, o4⟩
  all_goals go_enter Tryz.func78, Tryz.ntmps78
  all_goals go_wp2_with fail
  all_goals go_ret
  all_goals refine ⟨ret_bool ?_, rfl⟩
  all_goals (unfold opOkX; first | (simp; done) | (simp [o1, o2, o3, o4]; done) | (rw [Bool.eq_iff_iff]; simp; omega))

theorem goodName_le {s : ByteArray} (h : goodName s = true) : s.size ≤ 30 := by
  rcases Nat.lt_or_ge 30 s.size with h2 | h2
  · rw [goodName_size (.inr h2)] at h; cases h
  · exact h2
theorem opC_one (k : Int) : opC 1 k = opOkX 3 k := by simp [opC, opOkX]
theorem opC_not {o : Int} (h : ¬ o = 1) (k : Int) : opC o k = opOkX o k := by
  have h2 : (o == 1) = false := by simpa using h
  simp [opC, opOkX, h2]
theorem opC_range {o k : Int} (h : opC o k = true) : o = 1 ∨ o = 2 ∨ o = 3 ∨ o = 4 := by
  by_cases h1 : o = 1
  · exact .inl h1
  by_cases h2 : o = 2
  · exact .inr (.inl h2)
  by_cases h3 : o = 3
  · exact .inr (.inr (.inl h3))
  by_cases h4 : o = 4
  · exact .inr (.inr (.inr h4))
  simp [opC, h1, h2, h3, h4] at h
theorem belowN {B : Nat} {a w : World} (h : Below B a w) (n : Nat) : Below B a (w.drewN n) := ⟨h.os, h.tape, h.output, h.size, h.block⟩
theorem sgn_size (o : Int) : (sgn o).size ≤ 2 := by
  unfold sgn; split
  · decide
  · split
    · decide
    · split <;> decide

set_option maxHeartbeats 2000000 in
set_option maxHeartbeats 2000000 in
set_option maxHeartbeats 2000000 in
set_option maxHeartbeats 2000000 in
set_option maxHeartbeats 2000000 in
set_option maxHeartbeats 2000000 in
set_option maxHeartbeats 2000000 in
theorem l17Term_any (x : CavTermT) (w : World) (ok : x.Ok) :
    Calls Tryz.prog 39 #[.agg #[.string x.f0, .int .i64 x.f1, .string x.f2, .int .i64 x.f3, .int .i64 x.f4, .string x.f5, .string x.f6]] w fun e w' => e = .returned (.bool (termB x)) ∧ Below w.heap.size w w' := by
  have q1 := hide (fun w => sGoodName_any x.f0 ok.o0 w)
  have q2 := hide (fun w => sGoodAtom_any x.f3 x.f4 x.f5 x.f6 w ok.n9 ok.o5 ok.o6)
  have e := hide (show termB x = (goodName x.f0 && x.f2.toList.isEmpty && goodAtom x.f3 x.f4 x.f5 x.f6 && opC x.f1 x.f3) from rfl)
  generalize termB x = T at e ⊢
  generalize goodName x.f0 = b1 at q1 e
  generalize goodAtom x.f3 x.f4 x.f5 x.f6 = b2 at q2 e
  obtain ⟨f0, f1, f2, f3, f4, f5, f6⟩ := x
  simp only at q1 q2 e ⊢
  clear ok
  obtain ⟨W, hW⟩ : ∃ W, W = w.alloc (.cells #[.string f0, .int .i64 f1, .string f2, .int .i64 f3, .int .i64 f4, .string f5, .string f6] 58) := ⟨_, rfl⟩
  have B := hide (show Below w.heap.size w W by rw [hW]; exact bAl (Below.refl _ _) _)
  have R := hide (show RowIs W w.heap.size #[.string f0, .int .i64 f1, .string f2, .int .i64 f3, .int .i64 f4, .string f5, .string f6] 58 by rw [hW]; exact RowIs.new _ _ _)
  have HW := hide hW.symm
  clear hW
  go_enter Tryz.func39, Tryz.ntmps39
  go_wp2_with fail
  rw [unhide HW]
  refine (unhide q1 _).mono ?_
  rintro e1 w1 ⟨rfl, rfl⟩
  have B1 := B
  have R1 := R
  clear B R HW
  have c0 := (unhide R1).at (o := 0) (v := .string f0) rfl
  have c1 := (unhide R1).at (o := 1) (v := .int .i64 f1) rfl
  have c2 := (unhide R1).at (o := 2) (v := .string f2) rfl
  have c3 := (unhide R1).at (o := 3) (v := .int .i64 f3) rfl
  have c4 := (unhide R1).at (o := 4) (v := .int .i64 f4) rfl
  have c5 := (unhide R1).at (o := 5) (v := .string f5) rfl
  have c6 := (unhide R1).at (o := 6) (v := .string f6) rfl
  cases b1
  · go_wp2_with fail
    go_ret
    exact ⟨ret_bool (by rw [unhide e]; rfl), unhide B1⟩
  cases z : f2.toList.isEmpty
  · rw [z] at e
    go_wp2_with fail
    go_ret
    exact ⟨ret_bool (by rw [unhide e]; rfl), unhide B1⟩
  rw [z] at e
  go_wp2_with fail
  refine (unhide q2 _).mono ?_
  rintro e2 w2 ⟨rfl, hb2⟩
  have B2 := hide (bTr (unhide B1) hb2)
  have R2 := hide ((unhide R1).keep hb2)
  clear hb2 B1 R1
  clear c0 c1 c2 c3 c4 c5 c6
  have c0 := (unhide R2).at (o := 0) (v := .string f0) rfl
  have c1 := (unhide R2).at (o := 1) (v := .int .i64 f1) rfl
  have c2 := (unhide R2).at (o := 2) (v := .string f2) rfl
  have c3 := (unhide R2).at (o := 3) (v := .int .i64 f3) rfl
  have c4 := (unhide R2).at (o := 4) (v := .int .i64 f4) rfl
  have c5 := (unhide R2).at (o := 5) (v := .string f5) rfl
  have c6 := (unhide R2).at (o := 6) (v := .string f6) rfl
  cases b2
  · go_wp2_with fail
    go_ret
    exact ⟨ret_bool (by rw [unhide e]; rfl), unhide B2⟩
  rcases (by omega : f1 = 1 ∨ f1 = 2 ∨ f1 = 3 ∨ f1 = 4 ∨ (f1 ≠ 1 ∧ f1 ≠ 2 ∧ f1 ≠ 3 ∧ f1 ≠ 4)) with rfl | rfl | rfl | rfl | ⟨o1, o2, o3, o4⟩
  all_goals go_wp2_with fail
  all_goals go_ret
  all_goals refine ⟨ret_bool (?_ : _ = _), unhide B2⟩
  all_goals rw [unhide e]
  all_goals (unfold opC; first | (simp; done) | (simp [o1, o2, o3, o4]; done) | (rw [Bool.eq_iff_iff]; simp; omega))
set_option maxHeartbeats 2000000 in
theorem isCapTerm_any (x : CavTermT) (w : World) (ok : x.Ok) :
    Calls Tryz.prog 52 #[.agg #[.string x.f0, .int .i64 x.f1, .string x.f2, .int .i64 x.f3, .int .i64 x.f4, .string x.f5, .string x.f6]] w fun e w' => e = .returned (.bool (termB x)) ∧ Below w.heap.size w w' := by
  have q1 := hide (fun w => iGoodName_any x.f0 ok.o0 w)
  have q2 := hide (fun w => iGoodAtom_any x.f3 x.f4 x.f5 x.f6 w ok.n9 ok.o5 ok.o6)
  have e := hide (show termB x = (goodName x.f0 && x.f2.toList.isEmpty && goodAtom x.f3 x.f4 x.f5 x.f6 && opC x.f1 x.f3) from rfl)
  generalize termB x = T at e ⊢
  generalize goodName x.f0 = b1 at q1 e
  generalize goodAtom x.f3 x.f4 x.f5 x.f6 = b2 at q2 e
  obtain ⟨f0, f1, f2, f3, f4, f5, f6⟩ := x
  simp only at q1 q2 e ⊢
  clear ok
  obtain ⟨W, hW⟩ : ∃ W, W = w.alloc (.cells #[.string f0, .int .i64 f1, .string f2, .int .i64 f3, .int .i64 f4, .string f5, .string f6] 58) := ⟨_, rfl⟩
  have B := hide (show Below w.heap.size w W by rw [hW]; exact bAl (Below.refl _ _) _)
  have R := hide (show RowIs W w.heap.size #[.string f0, .int .i64 f1, .string f2, .int .i64 f3, .int .i64 f4, .string f5, .string f6] 58 by rw [hW]; exact RowIs.new _ _ _)
  have HW := hide hW.symm
  clear hW
  by_cases h1 : f1 = 1
  · have q3 := hide (fun w => opTakesX_any 3 f3 w)
    rw [h1, opC_one] at e
    have h1b : (f1 == 1) = true := by simpa using h1
    clear h1
    generalize opOkX 3 f3 = b3 at q3 e
    go_enter Tryz.func52, Tryz.ntmps52
    go_wp2_with fail
    rw [unhide HW]
    refine (unhide q1 _).mono ?_
    rintro e1 w1 ⟨rfl, hb1⟩
    have B1 := hide (bTr (unhide B) hb1)
    have R1 := hide ((unhide R).keep hb1)
    clear hb1
    clear B R HW
    have c0 := (unhide R1).at (o := 0) (v := .string f0) rfl
    have c1 := (unhide R1).at (o := 1) (v := .int .i64 f1) rfl
    have c2 := (unhide R1).at (o := 2) (v := .string f2) rfl
    have c3 := (unhide R1).at (o := 3) (v := .int .i64 f3) rfl
    have c4 := (unhide R1).at (o := 4) (v := .int .i64 f4) rfl
    have c5 := (unhide R1).at (o := 5) (v := .string f5) rfl
    have c6 := (unhide R1).at (o := 6) (v := .string f6) rfl
    cases b1
    · go_wp2_with fail
      go_ret
      exact ⟨ret_bool (by rw [unhide e]; rfl), unhide B1⟩
    cases z : f2.toList.isEmpty
    · rw [z] at e
      go_wp2_with fail
      go_ret
      exact ⟨ret_bool (by rw [unhide e]; rfl), unhide B1⟩
    rw [z] at e
    go_wp2_with fail
    refine (unhide q2 _).mono ?_
    rintro e2 w2 ⟨rfl, hb2⟩
    have B2 := hide (bTr (unhide B1) hb2)
    have R2 := hide ((unhide R1).keep hb2)
    clear hb2 B1 R1
    clear c0 c1 c2 c3 c4 c5 c6
    have c0 := (unhide R2).at (o := 0) (v := .string f0) rfl
    have c1 := (unhide R2).at (o := 1) (v := .int .i64 f1) rfl
    have c2 := (unhide R2).at (o := 2) (v := .string f2) rfl
    have c3 := (unhide R2).at (o := 3) (v := .int .i64 f3) rfl
    have c4 := (unhide R2).at (o := 4) (v := .int .i64 f4) rfl
    have c5 := (unhide R2).at (o := 5) (v := .string f5) rfl
    have c6 := (unhide R2).at (o := 6) (v := .string f6) rfl
    cases b2
    · go_wp2_with fail
      go_ret
      exact ⟨ret_bool (by rw [unhide e]; rfl), unhide B2⟩
    go_wp2_with fail
    refine (unhide q3 _).mono ?_
    rintro e3 w3 ⟨rfl, rfl⟩
    go_wp2_with fail
    go_ret
    exact ⟨ret_bool (by rw [unhide e]; cases b3 <;> rfl), unhide B2⟩
  · have q3 := hide (fun w => opTakesX_any f1 f3 w)
    rw [opC_not h1] at e
    generalize opOkX f1 f3 = b3 at q3 e
    have h1b : (f1 == 1) = false := by simpa using h1
    go_enter Tryz.func52, Tryz.ntmps52
    go_wp2_with fail
    rw [unhide HW]
    refine (unhide q1 _).mono ?_
    rintro e1 w1 ⟨rfl, hb1⟩
    have B1 := hide (bTr (unhide B) hb1)
    have R1 := hide ((unhide R).keep hb1)
    clear hb1
    clear B R HW
    have c0 := (unhide R1).at (o := 0) (v := .string f0) rfl
    have c1 := (unhide R1).at (o := 1) (v := .int .i64 f1) rfl
    have c2 := (unhide R1).at (o := 2) (v := .string f2) rfl
    have c3 := (unhide R1).at (o := 3) (v := .int .i64 f3) rfl
    have c4 := (unhide R1).at (o := 4) (v := .int .i64 f4) rfl
    have c5 := (unhide R1).at (o := 5) (v := .string f5) rfl
    have c6 := (unhide R1).at (o := 6) (v := .string f6) rfl
    cases b1
    · go_wp2_with fail
      go_ret
      exact ⟨ret_bool (by rw [unhide e]; rfl), unhide B1⟩
    cases z : f2.toList.isEmpty
    · rw [z] at e
      go_wp2_with fail
      go_ret
      exact ⟨ret_bool (by rw [unhide e]; rfl), unhide B1⟩
    rw [z] at e
    go_wp2_with fail
    refine (unhide q2 _).mono ?_
    rintro e2 w2 ⟨rfl, hb2⟩
    have B2 := hide (bTr (unhide B1) hb2)
    have R2 := hide ((unhide R1).keep hb2)
    clear hb2 B1 R1
    clear c0 c1 c2 c3 c4 c5 c6
    have c0 := (unhide R2).at (o := 0) (v := .string f0) rfl
    have c1 := (unhide R2).at (o := 1) (v := .int .i64 f1) rfl
    have c2 := (unhide R2).at (o := 2) (v := .string f2) rfl
    have c3 := (unhide R2).at (o := 3) (v := .int .i64 f3) rfl
    have c4 := (unhide R2).at (o := 4) (v := .int .i64 f4) rfl
    have c5 := (unhide R2).at (o := 5) (v := .string f5) rfl
    have c6 := (unhide R2).at (o := 6) (v := .string f6) rfl
    cases b2
    · go_wp2_with fail
      go_ret
      exact ⟨ret_bool (by rw [unhide e]; rfl), unhide B2⟩
    go_wp2_with fail
    refine (unhide q3 _).mono ?_
    rintro e3 w3 ⟨rfl, rfl⟩
    go_wp2_with fail
    go_ret
    exact ⟨ret_bool (by rw [unhide e]; cases b3 <;> rfl), unhide B2⟩
set_option maxHeartbeats 2000000 in
theorem termText_any (x : CavTermT) (w : World) (ok : x.Ok) (hS : Signs w) (hT : Tab w) (hg : termB x = true) :
    Calls Tryz.prog 104 #[.agg #[.string x.f0, .int .i64 x.f1, .string x.f2, .int .i64 x.f3, .int .i64 x.f4, .string x.f5, .string x.f6]] w fun e w' => e = .returned (.string (termL x)) ∧ Below w.heap.size w w' := by
  have q2 := hide (fun w h => iAtomText_any x.f3 x.f4 x.f5 x.f6 w ok.n8 ok.n9 ok.o5 ok.o6 h)
  unfold termB at hg
  simp only [Bool.and_eq_true] at hg
  obtain ⟨⟨⟨g1, g2⟩, g3⟩, g4⟩ := hg
  have z0 := goodName_le g1
  have za : (⟨(atomL x.f3 x.f4 x.f5 x.f6).toArray⟩ : ByteArray).size ≤ 1100 := by
    show (atomL x.f3 x.f4 x.f5 x.f6).toArray.size ≤ 1100
    have := atomL_len ok.n8 ok.n9 g3
    simpa using this
  have ea : atomT x.f3 x.f4 x.f5 x.f6 = ⟨(atomL x.f3 x.f4 x.f5 x.f6).toArray⟩ := if_pos g3
  rw [ea] at q2
  have eT := hide (show termL x = x.f0 ++ sp1 ++ sgn x.f1 ++ sp1 ++ ⟨(atomL x.f3 x.f4 x.f5 x.f6).toArray⟩ from rfl)
  have ho := opC_range g4
  generalize termL x = T at eT ⊢
  generalize (⟨(atomL x.f3 x.f4 x.f5 x.f6).toArray⟩ : ByteArray) = AT at q2 za eT
  clear ea g1 g3 g4 ok
  obtain ⟨f0, f1, f2, f3, f4, f5, f6⟩ := x
  simp only at q2 eT z0 g2 ho ⊢
  obtain ⟨W, hW⟩ : ∃ W, W = w.alloc (.cells #[.string f0, .int .i64 f1, .string f2, .int .i64 f3, .int .i64 f4, .string f5, .string f6] 58) := ⟨_, rfl⟩
  have B := hide (show Below w.heap.size w W by rw [hW]; exact bAl (Below.refl _ _) _)
  have R := hide (show RowIs W w.heap.size #[.string f0, .int .i64 f1, .string f2, .int .i64 f3, .int .i64 f4, .string f5, .string f6] 58 by rw [hW]; exact RowIs.new _ _ _)
  have HW := hide hW.symm
  have HT := hide ((show Tab w from hT).keep (unhide B))
  have HS := hide (hS.keep (unhide B))
  clear hW hT hS
  go_enter Tryz.func104, Tryz.ntmps104
  go_wp2_with fail
  rw [unhide HW]
  refine (unhide q2 _ (unhide HT)).mono ?_
  rintro e1 w1 ⟨rfl, hb1⟩
  have B1 := hide (bTr (unhide B) hb1)
  have R1 := (unhide R).keep hb1
  have S1 := (unhide HS).keep hb1
  have c0 := R1.at (o := 0) (v := .string f0) rfl
  have c1 := R1.at (o := 1) (v := .int .i64 f1) rfl
  have y1 := S1.c1
  have y2 := S1.c2
  have y3 := S1.c3
  have y4 := S1.c4
  clear hb1 R1 S1 HS HT R HW B q2
  have k0 : ¬ 9223372036854775806 < f0.size := by omega
  rcases ho with rfl | rfl | rfl | rfl
  · have eS : Hid (T = f0 ++ sp1 ++ (⟨#[61, 61]⟩ : ByteArray) ++ sp1 ++ AT) := hide (by rw [unhide eT]; rfl)
    clear eT
    go_wp2_with fail
    go_quiet (fail)
    go_wp2_with fail
    go_ret
    exact ⟨congrArg (fun x => Ending.returned (.string x)) (unhide eS).symm, belowN (unhide B1) _⟩
  · have eS : Hid (T = f0 ++ sp1 ++ (⟨#[60]⟩ : ByteArray) ++ sp1 ++ AT) := hide (by rw [unhide eT]; rfl)
    clear eT
    go_wp2_with fail
    go_quiet (fail)
    go_wp2_with fail
    go_ret
    exact ⟨congrArg (fun x => Ending.returned (.string x)) (unhide eS).symm, belowN (unhide B1) _⟩
  · have eS : Hid (T = f0 ++ sp1 ++ (⟨#[60, 61]⟩ : ByteArray) ++ sp1 ++ AT) := hide (by rw [unhide eT]; rfl)
    clear eT
    go_wp2_with fail
    go_quiet (fail)
    go_wp2_with fail
    go_ret
    exact ⟨congrArg (fun x => Ending.returned (.string x)) (unhide eS).symm, belowN (unhide B1) _⟩
  · have eS : Hid (T = f0 ++ sp1 ++ (⟨#[105, 110]⟩ : ByteArray) ++ sp1 ++ AT) := hide (by rw [unhide eT]; rfl)
    clear eT
    go_wp2_with fail
    go_quiet (fail)
    go_wp2_with fail
    go_ret
    exact ⟨congrArg (fun x => Ending.returned (.string x)) (unhide eS).symm, belowN (unhide B1) _⟩
theorem l6Ops_any (w : World) : Calls Tryz.prog 67 #[] w fun e w' => e = .returned (.slice (some ⟨w.heap.size, 0, none⟩) 5 5) ∧ w' = w.alloc (.cells #[.string ⟨#[]⟩, .string ⟨#[61, 61]⟩, .string ⟨#[60]⟩, .string ⟨#[60, 61]⟩, .string ⟨#[105, 110]⟩] 9) := by
  go_enter Tryz.func67, Tryz.ntmps67
  go_wp2_with fail
  go_ret
  exact ⟨rfl, rfl⟩
theorem l6Ops_b (w : World) : Calls Tryz.prog 67 #[] w fun e w' => ∃ b, e = .returned (.slice (some ⟨b, 0, none⟩) 5 5) ∧ RowIs w' b #[.string ⟨#[]⟩, .string ⟨#[61, 61]⟩, .string ⟨#[60]⟩, .string ⟨#[60, 61]⟩, .string ⟨#[105, 110]⟩] 9 ∧ Below w.heap.size w w' := by
  refine (l6Ops_any w).mono ?_
  rintro e w' ⟨rfl, rfl⟩
  exact ⟨_, rfl, RowIs.new _ _ _, bAl (Below.refl _ _) _⟩
theorem sixT {w' : World} {b : Nat} {f0 : ByteArray} {f1 : Int} {f2 : ByteArray} {f3 f4 : Int} {f5 f6 : ByteArray} (h : RowIs w' b #[.string f0, .int .i64 f1, .string f2, .int .i64 f3, .int .i64 f4, .string f5, .string f6] 58) : w'.cell? ⟨b, 0, none⟩ = some (.string f0) ∧ w'.cell? ⟨b, 1, none⟩ = some (.int .i64 f1) ∧ w'.cell? ⟨b, 3, none⟩ = some (.int .i64 f3) ∧ w'.cell? ⟨b, 4, none⟩ = some (.int .i64 f4) ∧ w'.cell? ⟨b, 5, none⟩ = some (.string f5) ∧ w'.cell? ⟨b, 6, none⟩ = some (.string f6) :=
  ⟨h.at rfl, h.at rfl, h.at rfl, h.at rfl, h.at rfl, h.at rfl⟩
theorem takeD {P : Program} {ops : Array Oper} {Q : Exit → Act → World → Prop} {md : Region.Mode} {S : World → Prop} {i : Nat} {oi : Oper} {v : Value} {d : Option Tmp} {fuel : Nat} {listed : Array Bool} {a : Act} {w : World} (hi : ops[i]? = some oi) (hd : oi.dst = d)
    (hs : Region.noSelect ops = true) (hf : Region.free md ops listed i = true) (hr : (Region.ready md ops listed).contains i = true)
    (hQ : ∀ c a w, Q (.panic c) (a.put oi.dst v) w → Q (.panic c) a w) (hy : YieldsIf P ops S oi v a) (hS : S w)
    (h : wpAnyH P md ops Q S fuel (listed.setIfInBounds i true) (a.put d v) w) : wpAnyH P md ops Q S (fuel + 1) listed a w := by
  subst hd
  exact wpAnyH_take hi hs hf hr hQ hy hS h
theorem undrewT {w w' : World} (h : Below w.drew.heap.size w.drew w') : Below w.heap.size w w' := bTr ((Below.refl _ _).drew) h
set_option maxHeartbeats 4000000 in
theorem sTermText_any (x : CavTermT) (w : World) (ok : x.Ok) :
    Calls Tryz.prog 43 #[.agg #[.string x.f0, .int .i64 x.f1, .string x.f2, .int .i64 x.f3, .int .i64 x.f4, .string x.f5, .string x.f6]] w fun e w' => e = .returned (.string (termX x)) ∧ Below w.heap.size w w' := by
  have q1 := hide (fun w => l17Term_any x w ok)
  by_cases hg : termB x = true
  · have eX := hide (show termX x = termL x from if_pos hg)
    rw [hg] at q1
    unfold termB at hg
    simp only [Bool.and_eq_true] at hg
    obtain ⟨⟨⟨g1, g2⟩, g3⟩, g4⟩ := hg
    have q2 := hide (fun w => l1Text_any x.f3 x.f4 x.f5 x.f6 w ok.n8 ok.n9 g3)
    have z0 := goodName_le g1
    have za : (⟨(atomL x.f3 x.f4 x.f5 x.f6).toArray⟩ : ByteArray).size ≤ 1100 := by
      show (atomL x.f3 x.f4 x.f5 x.f6).toArray.size ≤ 1100
      have := atomL_len ok.n8 ok.n9 g3
      simpa using this
    have eT := hide (show termL x = x.f0 ++ sp1 ++ sgn x.f1 ++ sp1 ++ ⟨(atomL x.f3 x.f4 x.f5 x.f6).toArray⟩ from rfl)
    have ho := opC_range g4
    generalize termX x = TX at eX ⊢
    generalize termL x = T at eT eX
    generalize (⟨(atomL x.f3 x.f4 x.f5 x.f6).toArray⟩ : ByteArray) = AT at q2 za eT
    clear g1 g3 g4 ok
    obtain ⟨f0, f1, f2, f3, f4, f5, f6⟩ := x
    simp only at q1 q2 eT z0 g2 ho ⊢
    obtain ⟨W, hW⟩ : ∃ W, W = w.alloc (.cells #[.string f0, .int .i64 f1, .string f2, .int .i64 f3, .int .i64 f4, .string f5, .string f6] 58) := ⟨_, rfl⟩
    have B := hide (show Below w.heap.size w W by rw [hW]; exact bAl (Below.refl _ _) _)
    have R := hide (show RowIs W w.heap.size #[.string f0, .int .i64 f1, .string f2, .int .i64 f3, .int .i64 f4, .string f5, .string f6] 58 by rw [hW]; exact RowIs.new _ _ _)
    have HW := hide hW.symm
    clear hW
    go_enter Tryz.func43, Tryz.ntmps43
    go_wp2_with fail
    rw [unhide HW]
    refine (unhide q1 _).mono ?_
    rintro e1 w1 ⟨rfl, hb1⟩
    have B1 := hide (bTr (unhide B) hb1)
    have R1 := (unhide R).keep hb1
    have HR1 := hide R1
    have c0 := R1.at (o := 0) (v := .string f0) rfl
    have c1 := R1.at (o := 1) (v := .int .i64 f1) rfl
    have c3 := R1.at (o := 3) (v := .int .i64 f3) rfl
    have c4 := R1.at (o := 4) (v := .int .i64 f4) rfl
    have c5 := R1.at (o := 5) (v := .string f5) rfl
    have c6 := R1.at (o := 6) (v := .string f6) rfl
    have k0 : ¬ 9223372036854775806 < f0.size := by omega
    clear hb1 R1 R HW B q1 c0 c1 c3 c4 c5 c6
    go_wp2_with fail
    rcases ho with rfl | rfl | rfl | rfl
    · have eS : Hid (T = f0 ++ sp1 ++ (⟨#[61, 61]⟩ : ByteArray) ++ sp1 ++ AT) := hide (by rw [unhide eT]; rfl)
      clear eT
      have z32 : (⟨#[32]⟩ : ByteArray).size = 1 := rfl
      have zsg : (⟨#[61, 61]⟩ : ByteArray).size = 2 := rfl
      refine wp_region_held_drew (S := fun w' => w'.cell? ⟨w.heap.size, 0, none⟩ = some (.string f0) ∧ w'.cell? ⟨w.heap.size, 1, none⟩ = some (.int .i64 1) ∧ w'.cell? ⟨w.heap.size, 3, none⟩ = some (.int .i64 f3) ∧ w'.cell? ⟨w.heap.size, 4, none⟩ = some (.int .i64 f4) ∧ w'.cell? ⟨w.heap.size, 5, none⟩ = some (.string f5) ∧ w'.cell? ⟨w.heap.size, 6, none⟩ = some (.string f6)) (by kernel_rfl) (sixT (unhide HR1)) (fun hHeld => ?_)
      refine takeD (i := 0) (v := .pointer (some ⟨w.heap.size, 0, none⟩)) (d := some 6) rfl (by kernel_rfl) (by kernel_rfl) (by kernel_rfl) (by kernel_rfl) (fun _ _ _ h => h) (.inl ⟨by kernel_rfl, fun w hSw => ?_⟩) (by assumption) ?_
      · obtain ⟨s0, s1, s3, s4, s5, s6⟩ := hSw
        go_simp
      try simp only [Act.put, List.setIfInBounds_toArray, List.set_cons_zero, List.set_cons_succ]
      refine takeD (i := 1) (v := .string f0) (d := some 7) rfl (by kernel_rfl) (by kernel_rfl) (by kernel_rfl) (by kernel_rfl) (fun _ _ _ h => h) (.inl ⟨by kernel_rfl, fun w hSw => ?_⟩) (by assumption) ?_
      · obtain ⟨s0, s1, s3, s4, s5, s6⟩ := hSw
        go_simp
      try simp only [Act.put, List.setIfInBounds_toArray, List.set_cons_zero, List.set_cons_succ]
      refine takeD (i := 2) (v := .string (f0 ++ (⟨#[32]⟩ : ByteArray))) (d := some 8) rfl (by kernel_rfl) (by kernel_rfl) (by kernel_rfl) (by kernel_rfl) (fun _ _ _ h => h) (.inl ⟨by kernel_rfl, fun w hSw => ?_⟩) (by assumption) ?_
      · obtain ⟨s0, s1, s3, s4, s5, s6⟩ := hSw
        go_simp
        all_goals ((try simp only [ByteArray.size_append, z32, zsg]); omega)
      try simp only [Act.put, List.setIfInBounds_toArray, List.set_cons_zero, List.set_cons_succ]
      refine takeD (i := 4) (v := .pointer (some ⟨w.heap.size, 1, none⟩)) (d := some 10) rfl (by kernel_rfl) (by kernel_rfl) (by kernel_rfl) (by kernel_rfl) (fun _ _ _ h => h) (.inl ⟨by kernel_rfl, fun w hSw => ?_⟩) (by assumption) ?_
      · obtain ⟨s0, s1, s3, s4, s5, s6⟩ := hSw
        go_simp
      try simp only [Act.put, List.setIfInBounds_toArray, List.set_cons_zero, List.set_cons_succ]
      refine takeD (i := 5) (v := .int .i64 1) (d := some 11) rfl (by kernel_rfl) (by kernel_rfl) (by kernel_rfl) (by kernel_rfl) (fun _ _ _ h => h) (.inl ⟨by kernel_rfl, fun w hSw => ?_⟩) (by assumption) ?_
      · obtain ⟨s0, s1, s3, s4, s5, s6⟩ := hSw
        go_simp
      try simp only [Act.put, List.setIfInBounds_toArray, List.set_cons_zero, List.set_cons_succ]
      refine takeD (i := 10) (v := .pointer (some ⟨w.heap.size, 3, none⟩)) (d := some 16) rfl (by kernel_rfl) (by kernel_rfl) (by kernel_rfl) (by kernel_rfl) (fun _ _ _ h => h) (.inl ⟨by kernel_rfl, fun w hSw => ?_⟩) (by assumption) ?_
      · obtain ⟨s0, s1, s3, s4, s5, s6⟩ := hSw
        go_simp
      try simp only [Act.put, List.setIfInBounds_toArray, List.set_cons_zero, List.set_cons_succ]
      refine takeD (i := 11) (v := .agg #[.int .i64 f3, .int .i64 f4, .string f5, .string f6]) (d := some 17) rfl (by kernel_rfl) (by kernel_rfl) (by kernel_rfl) (by kernel_rfl) (fun _ _ _ h => h) (.inl ⟨by kernel_rfl, fun w hSw => ?_⟩) (by assumption) ?_
      · obtain ⟨s0, s1, s3, s4, s5, s6⟩ := hSw
        go_simp
      try simp only [Act.put, List.setIfInBounds_toArray, List.set_cons_zero, List.set_cons_succ]
      refine wpAnyH_ready (rs := [3]) (by kernel_rfl) (by simp) ?_
      refine AllReadyH.cons (by rfl) (fun K hK => ?_) AllReadyH.nil
      go_simp
      refine (l6Ops_b _).mono ?_
      rintro e w2 ⟨b2, rfl, hr2, hb2⟩
      replace hb2 := undrewT hb2
      have R2 := hide ((unhide HR1).keep hb2)
      have B2 := hide (bTr (unhide B1) hb2)
      have RO := hide hr2
      have yo := hr2.at (o := 1) (v := .string (⟨#[61, 61]⟩ : ByteArray)) rfl
      clear hb2 hr2
      try dsimp only
      refine hK.out _ _ (sixT (unhide R2)) (fun hH2 => ?_)
      clear hK K
      try simp only [Act.put, List.setIfInBounds_toArray, List.set_cons_zero, List.set_cons_succ]
      refine takeD (i := 6) (v := .pointer (some ⟨b2, 1, none⟩)) (d := some 12) rfl (by kernel_rfl) (by kernel_rfl) (by kernel_rfl) (by kernel_rfl) (fun _ _ _ h => h) (.inl ⟨by kernel_rfl, fun w hSw => ?_⟩) (by assumption) ?_
      · obtain ⟨s0, s1, s3, s4, s5, s6⟩ := hSw
        go_simp
      try simp only [Act.put, List.setIfInBounds_toArray, List.set_cons_zero, List.set_cons_succ]
      refine wpAnyH_ready (rs := [7, 12]) (by kernel_rfl) (by simp) ?_
      refine AllReadyH.cons (by rfl) (fun K hK => ?_) (AllReadyH.cons (by rfl) (fun K hK => ?_) AllReadyH.nil)
      · go_simp
        try dsimp only
        refine hK.out _ _ (sixT (unhide R2)) (fun hH3 => ?_)
        clear hK K
        try simp only [Act.put, List.setIfInBounds_toArray, List.set_cons_zero, List.set_cons_succ]
        refine takeD (i := 8) (v := .string (f0 ++ (⟨#[32]⟩ : ByteArray) ++ (⟨#[61, 61]⟩ : ByteArray))) (d := some 14) rfl (by kernel_rfl) (by kernel_rfl) (by kernel_rfl) (by kernel_rfl) (fun _ _ _ h => h) (.inl ⟨by kernel_rfl, fun w hSw => ?_⟩) (by assumption) ?_
        · obtain ⟨s0, s1, s3, s4, s5, s6⟩ := hSw
          go_simp
          all_goals ((try simp only [ByteArray.size_append, z32, zsg]); omega)
        try simp only [Act.put, List.setIfInBounds_toArray, List.set_cons_zero, List.set_cons_succ]
        refine takeD (i := 9) (v := .string (f0 ++ (⟨#[32]⟩ : ByteArray) ++ (⟨#[61, 61]⟩ : ByteArray) ++ (⟨#[32]⟩ : ByteArray))) (d := some 15) rfl (by kernel_rfl) (by kernel_rfl) (by kernel_rfl) (by kernel_rfl) (fun _ _ _ h => h) (.inl ⟨by kernel_rfl, fun w hSw => ?_⟩) (by assumption) ?_
        · obtain ⟨s0, s1, s3, s4, s5, s6⟩ := hSw
          go_simp
          all_goals ((try simp only [ByteArray.size_append, z32, zsg]); omega)
        try simp only [Act.put, List.setIfInBounds_toArray, List.set_cons_zero, List.set_cons_succ]
        refine wpAnyH_ready (rs := [12]) (by kernel_rfl) (by simp) ?_
        refine AllReadyH.cons (by rfl) (fun K hK => ?_) AllReadyH.nil
        go_simp
        refine (unhide q2 _).mono ?_
        rintro e w3 ⟨rfl, hb3⟩
        have R3 := hide ((unhide R2).keep hb3)
        have B3 := hide (bTr (unhide B2) hb3)
        clear hb3
        try dsimp only
        refine hK.out _ _ (sixT (unhide R3)) (fun hH4 => ?_)
        clear hK K
        try simp only [Act.put, List.setIfInBounds_toArray, List.set_cons_zero, List.set_cons_succ]
        refine takeD (i := 13) (v := .string (f0 ++ (⟨#[32]⟩ : ByteArray) ++ (⟨#[61, 61]⟩ : ByteArray) ++ (⟨#[32]⟩ : ByteArray) ++ AT)) (d := some 19) rfl (by kernel_rfl) (by kernel_rfl) (by kernel_rfl) (by kernel_rfl) (fun _ _ _ h => h) (.inl ⟨by kernel_rfl, fun w hSw => ?_⟩) (by assumption) ?_
        · obtain ⟨s0, s1, s3, s4, s5, s6⟩ := hSw
          go_simp
          all_goals ((try simp only [ByteArray.size_append, z32, zsg]); omega)
        try simp only [Act.put, List.setIfInBounds_toArray, List.set_cons_zero, List.set_cons_succ]
        refine takeD (i := 14) (v := .string (f0 ++ (⟨#[32]⟩ : ByteArray) ++ (⟨#[61, 61]⟩ : ByteArray) ++ (⟨#[32]⟩ : ByteArray) ++ AT)) (d := some 2) rfl (by kernel_rfl) (by kernel_rfl) (by kernel_rfl) (by kernel_rfl) (fun _ _ _ h => h) (.inl ⟨by kernel_rfl, fun w hSw => ?_⟩) (by assumption) ?_
        · obtain ⟨s0, s1, s3, s4, s5, s6⟩ := hSw
          go_simp
        try simp only [Act.put, List.setIfInBounds_toArray, List.set_cons_zero, List.set_cons_succ]
        refine wpAnyH_done (by kernel_rfl) ?_ _
        go_wp2_with fail
        go_ret
        exact ⟨congrArg (fun x => Ending.returned (.string x)) ((unhide eX).trans (unhide eS)).symm, unhide B3⟩
      · go_simp
        refine (unhide q2 _).mono ?_
        rintro e w3 ⟨rfl, hb3⟩
        have R3 := hide ((unhide R2).keep hb3)
        have B3 := hide (bTr (unhide B2) hb3)
        have yo := ((unhide RO).keep hb3).at (o := 1) (v := .string (⟨#[61, 61]⟩ : ByteArray)) rfl
        clear hb3
        try dsimp only
        refine hK.out _ _ (sixT (unhide R3)) (fun hH3 => ?_)
        clear hK K
        try simp only [Act.put, List.setIfInBounds_toArray, List.set_cons_zero, List.set_cons_succ]
        refine wpAnyH_ready (rs := [7]) (by kernel_rfl) (by simp) ?_
        refine AllReadyH.cons (by rfl) (fun K hK => ?_) AllReadyH.nil
        go_simp
        try dsimp only
        refine hK.out _ _ (sixT (unhide R3)) (fun hH4 => ?_)
        clear hK K
        try simp only [Act.put, List.setIfInBounds_toArray, List.set_cons_zero, List.set_cons_succ]
        refine takeD (i := 8) (v := .string (f0 ++ (⟨#[32]⟩ : ByteArray) ++ (⟨#[61, 61]⟩ : ByteArray))) (d := some 14) rfl (by kernel_rfl) (by kernel_rfl) (by kernel_rfl) (by kernel_rfl) (fun _ _ _ h => h) (.inl ⟨by kernel_rfl, fun w hSw => ?_⟩) (by assumption) ?_
        · obtain ⟨s0, s1, s3, s4, s5, s6⟩ := hSw
          go_simp
          all_goals ((try simp only [ByteArray.size_append, z32, zsg]); omega)
        try simp only [Act.put, List.setIfInBounds_toArray, List.set_cons_zero, List.set_cons_succ]
        refine takeD (i := 9) (v := .string (f0 ++ (⟨#[32]⟩ : ByteArray) ++ (⟨#[61, 61]⟩ : ByteArray) ++ (⟨#[32]⟩ : ByteArray))) (d := some 15) rfl (by kernel_rfl) (by kernel_rfl) (by kernel_rfl) (by kernel_rfl) (fun _ _ _ h => h) (.inl ⟨by kernel_rfl, fun w hSw => ?_⟩) (by assumption) ?_
        · obtain ⟨s0, s1, s3, s4, s5, s6⟩ := hSw
          go_simp
          all_goals ((try simp only [ByteArray.size_append, z32, zsg]); omega)
        try simp only [Act.put, List.setIfInBounds_toArray, List.set_cons_zero, List.set_cons_succ]
        refine takeD (i := 13) (v := .string (f0 ++ (⟨#[32]⟩ : ByteArray) ++ (⟨#[61, 61]⟩ : ByteArray) ++ (⟨#[32]⟩ : ByteArray) ++ AT)) (d := some 19) rfl (by kernel_rfl) (by kernel_rfl) (by kernel_rfl) (by kernel_rfl) (fun _ _ _ h => h) (.inl ⟨by kernel_rfl, fun w hSw => ?_⟩) (by assumption) ?_
        · obtain ⟨s0, s1, s3, s4, s5, s6⟩ := hSw
          go_simp
          all_goals ((try simp only [ByteArray.size_append, z32, zsg]); omega)
        try simp only [Act.put, List.setIfInBounds_toArray, List.set_cons_zero, List.set_cons_succ]
        refine takeD (i := 14) (v := .string (f0 ++ (⟨#[32]⟩ : ByteArray) ++ (⟨#[61, 61]⟩ : ByteArray) ++ (⟨#[32]⟩ : ByteArray) ++ AT)) (d := some 2) rfl (by kernel_rfl) (by kernel_rfl) (by kernel_rfl) (by kernel_rfl) (fun _ _ _ h => h) (.inl ⟨by kernel_rfl, fun w hSw => ?_⟩) (by assumption) ?_
        · obtain ⟨s0, s1, s3, s4, s5, s6⟩ := hSw
          go_simp
        try simp only [Act.put, List.setIfInBounds_toArray, List.set_cons_zero, List.set_cons_succ]
        refine wpAnyH_done (by kernel_rfl) ?_ _
        go_wp2_with fail
        go_ret
        exact ⟨congrArg (fun x => Ending.returned (.string x)) ((unhide eX).trans (unhide eS)).symm, unhide B3⟩
    · have eS : Hid (T = f0 ++ sp1 ++ (⟨#[60]⟩ : ByteArray) ++ sp1 ++ AT) := hide (by rw [unhide eT]; rfl)
      clear eT
      have z32 : (⟨#[32]⟩ : ByteArray).size = 1 := rfl
      have zsg : (⟨#[60]⟩ : ByteArray).size = 1 := rfl
      refine wp_region_held_drew (S := fun w' => w'.cell? ⟨w.heap.size, 0, none⟩ = some (.string f0) ∧ w'.cell? ⟨w.heap.size, 1, none⟩ = some (.int .i64 2) ∧ w'.cell? ⟨w.heap.size, 3, none⟩ = some (.int .i64 f3) ∧ w'.cell? ⟨w.heap.size, 4, none⟩ = some (.int .i64 f4) ∧ w'.cell? ⟨w.heap.size, 5, none⟩ = some (.string f5) ∧ w'.cell? ⟨w.heap.size, 6, none⟩ = some (.string f6)) (by kernel_rfl) (sixT (unhide HR1)) (fun hHeld => ?_)
      refine takeD (i := 0) (v := .pointer (some ⟨w.heap.size, 0, none⟩)) (d := some 6) rfl (by kernel_rfl) (by kernel_rfl) (by kernel_rfl) (by kernel_rfl) (fun _ _ _ h => h) (.inl ⟨by kernel_rfl, fun w hSw => ?_⟩) (by assumption) ?_
      · obtain ⟨s0, s1, s3, s4, s5, s6⟩ := hSw
        go_simp
      try simp only [Act.put, List.setIfInBounds_toArray, List.set_cons_zero, List.set_cons_succ]
      refine takeD (i := 1) (v := .string f0) (d := some 7) rfl (by kernel_rfl) (by kernel_rfl) (by kernel_rfl) (by kernel_rfl) (fun _ _ _ h => h) (.inl ⟨by kernel_rfl, fun w hSw => ?_⟩) (by assumption) ?_
      · obtain ⟨s0, s1, s3, s4, s5, s6⟩ := hSw
        go_simp
      try simp only [Act.put, List.setIfInBounds_toArray, List.set_cons_zero, List.set_cons_succ]
      refine takeD (i := 2) (v := .string (f0 ++ (⟨#[32]⟩ : ByteArray))) (d := some 8) rfl (by kernel_rfl) (by kernel_rfl) (by kernel_rfl) (by kernel_rfl) (fun _ _ _ h => h) (.inl ⟨by kernel_rfl, fun w hSw => ?_⟩) (by assumption) ?_
      · obtain ⟨s0, s1, s3, s4, s5, s6⟩ := hSw
        go_simp
        all_goals ((try simp only [ByteArray.size_append, z32, zsg]); omega)
      try simp only [Act.put, List.setIfInBounds_toArray, List.set_cons_zero, List.set_cons_succ]
      refine takeD (i := 4) (v := .pointer (some ⟨w.heap.size, 1, none⟩)) (d := some 10) rfl (by kernel_rfl) (by kernel_rfl) (by kernel_rfl) (by kernel_rfl) (fun _ _ _ h => h) (.inl ⟨by kernel_rfl, fun w hSw => ?_⟩) (by assumption) ?_
      · obtain ⟨s0, s1, s3, s4, s5, s6⟩ := hSw
        go_simp
      try simp only [Act.put, List.setIfInBounds_toArray, List.set_cons_zero, List.set_cons_succ]
      refine takeD (i := 5) (v := .int .i64 2) (d := some 11) rfl (by kernel_rfl) (by kernel_rfl) (by kernel_rfl) (by kernel_rfl) (fun _ _ _ h => h) (.inl ⟨by kernel_rfl, fun w hSw => ?_⟩) (by assumption) ?_
      · obtain ⟨s0, s1, s3, s4, s5, s6⟩ := hSw
        go_simp
      try simp only [Act.put, List.setIfInBounds_toArray, List.set_cons_zero, List.set_cons_succ]
      refine takeD (i := 10) (v := .pointer (some ⟨w.heap.size, 3, none⟩)) (d := some 16) rfl (by kernel_rfl) (by kernel_rfl) (by kernel_rfl) (by kernel_rfl) (fun _ _ _ h => h) (.inl ⟨by kernel_rfl, fun w hSw => ?_⟩) (by assumption) ?_
      · obtain ⟨s0, s1, s3, s4, s5, s6⟩ := hSw
        go_simp
      try simp only [Act.put, List.setIfInBounds_toArray, List.set_cons_zero, List.set_cons_succ]
      refine takeD (i := 11) (v := .agg #[.int .i64 f3, .int .i64 f4, .string f5, .string f6]) (d := some 17) rfl (by kernel_rfl) (by kernel_rfl) (by kernel_rfl) (by kernel_rfl) (fun _ _ _ h => h) (.inl ⟨by kernel_rfl, fun w hSw => ?_⟩) (by assumption) ?_
      · obtain ⟨s0, s1, s3, s4, s5, s6⟩ := hSw
        go_simp
      try simp only [Act.put, List.setIfInBounds_toArray, List.set_cons_zero, List.set_cons_succ]
      refine wpAnyH_ready (rs := [3]) (by kernel_rfl) (by simp) ?_
      refine AllReadyH.cons (by rfl) (fun K hK => ?_) AllReadyH.nil
      go_simp
      refine (l6Ops_b _).mono ?_
      rintro e w2 ⟨b2, rfl, hr2, hb2⟩
      replace hb2 := undrewT hb2
      have R2 := hide ((unhide HR1).keep hb2)
      have B2 := hide (bTr (unhide B1) hb2)
      have RO := hide hr2
      have yo := hr2.at (o := 2) (v := .string (⟨#[60]⟩ : ByteArray)) rfl
      clear hb2 hr2
      try dsimp only
      refine hK.out _ _ (sixT (unhide R2)) (fun hH2 => ?_)
      clear hK K
      try simp only [Act.put, List.setIfInBounds_toArray, List.set_cons_zero, List.set_cons_succ]
      refine takeD (i := 6) (v := .pointer (some ⟨b2, 2, none⟩)) (d := some 12) rfl (by kernel_rfl) (by kernel_rfl) (by kernel_rfl) (by kernel_rfl) (fun _ _ _ h => h) (.inl ⟨by kernel_rfl, fun w hSw => ?_⟩) (by assumption) ?_
      · obtain ⟨s0, s1, s3, s4, s5, s6⟩ := hSw
        go_simp
      try simp only [Act.put, List.setIfInBounds_toArray, List.set_cons_zero, List.set_cons_succ]
      refine wpAnyH_ready (rs := [7, 12]) (by kernel_rfl) (by simp) ?_
      refine AllReadyH.cons (by rfl) (fun K hK => ?_) (AllReadyH.cons (by rfl) (fun K hK => ?_) AllReadyH.nil)
      · go_simp
        try dsimp only
        refine hK.out _ _ (sixT (unhide R2)) (fun hH3 => ?_)
        clear hK K
        try simp only [Act.put, List.setIfInBounds_toArray, List.set_cons_zero, List.set_cons_succ]
        refine takeD (i := 8) (v := .string (f0 ++ (⟨#[32]⟩ : ByteArray) ++ (⟨#[60]⟩ : ByteArray))) (d := some 14) rfl (by kernel_rfl) (by kernel_rfl) (by kernel_rfl) (by kernel_rfl) (fun _ _ _ h => h) (.inl ⟨by kernel_rfl, fun w hSw => ?_⟩) (by assumption) ?_
        · obtain ⟨s0, s1, s3, s4, s5, s6⟩ := hSw
          go_simp
          all_goals ((try simp only [ByteArray.size_append, z32, zsg]); omega)
        try simp only [Act.put, List.setIfInBounds_toArray, List.set_cons_zero, List.set_cons_succ]
        refine takeD (i := 9) (v := .string (f0 ++ (⟨#[32]⟩ : ByteArray) ++ (⟨#[60]⟩ : ByteArray) ++ (⟨#[32]⟩ : ByteArray))) (d := some 15) rfl (by kernel_rfl) (by kernel_rfl) (by kernel_rfl) (by kernel_rfl) (fun _ _ _ h => h) (.inl ⟨by kernel_rfl, fun w hSw => ?_⟩) (by assumption) ?_
        · obtain ⟨s0, s1, s3, s4, s5, s6⟩ := hSw
          go_simp
          all_goals ((try simp only [ByteArray.size_append, z32, zsg]); omega)
        try simp only [Act.put, List.setIfInBounds_toArray, List.set_cons_zero, List.set_cons_succ]
        refine wpAnyH_ready (rs := [12]) (by kernel_rfl) (by simp) ?_
        refine AllReadyH.cons (by rfl) (fun K hK => ?_) AllReadyH.nil
        go_simp
        refine (unhide q2 _).mono ?_
        rintro e w3 ⟨rfl, hb3⟩
        have R3 := hide ((unhide R2).keep hb3)
        have B3 := hide (bTr (unhide B2) hb3)
        clear hb3
        try dsimp only
        refine hK.out _ _ (sixT (unhide R3)) (fun hH4 => ?_)
        clear hK K
        try simp only [Act.put, List.setIfInBounds_toArray, List.set_cons_zero, List.set_cons_succ]
        refine takeD (i := 13) (v := .string (f0 ++ (⟨#[32]⟩ : ByteArray) ++ (⟨#[60]⟩ : ByteArray) ++ (⟨#[32]⟩ : ByteArray) ++ AT)) (d := some 19) rfl (by kernel_rfl) (by kernel_rfl) (by kernel_rfl) (by kernel_rfl) (fun _ _ _ h => h) (.inl ⟨by kernel_rfl, fun w hSw => ?_⟩) (by assumption) ?_
        · obtain ⟨s0, s1, s3, s4, s5, s6⟩ := hSw
          go_simp
          all_goals ((try simp only [ByteArray.size_append, z32, zsg]); omega)
        try simp only [Act.put, List.setIfInBounds_toArray, List.set_cons_zero, List.set_cons_succ]
        refine takeD (i := 14) (v := .string (f0 ++ (⟨#[32]⟩ : ByteArray) ++ (⟨#[60]⟩ : ByteArray) ++ (⟨#[32]⟩ : ByteArray) ++ AT)) (d := some 2) rfl (by kernel_rfl) (by kernel_rfl) (by kernel_rfl) (by kernel_rfl) (fun _ _ _ h => h) (.inl ⟨by kernel_rfl, fun w hSw => ?_⟩) (by assumption) ?_
        · obtain ⟨s0, s1, s3, s4, s5, s6⟩ := hSw
          go_simp
        try simp only [Act.put, List.setIfInBounds_toArray, List.set_cons_zero, List.set_cons_succ]
        refine wpAnyH_done (by kernel_rfl) ?_ _
        go_wp2_with fail
        go_ret
        exact ⟨congrArg (fun x => Ending.returned (.string x)) ((unhide eX).trans (unhide eS)).symm, unhide B3⟩
      · go_simp
        refine (unhide q2 _).mono ?_
        rintro e w3 ⟨rfl, hb3⟩
        have R3 := hide ((unhide R2).keep hb3)
        have B3 := hide (bTr (unhide B2) hb3)
        have yo := ((unhide RO).keep hb3).at (o := 2) (v := .string (⟨#[60]⟩ : ByteArray)) rfl
        clear hb3
        try dsimp only
        refine hK.out _ _ (sixT (unhide R3)) (fun hH3 => ?_)
        clear hK K
        try simp only [Act.put, List.setIfInBounds_toArray, List.set_cons_zero, List.set_cons_succ]
        refine wpAnyH_ready (rs := [7]) (by kernel_rfl) (by simp) ?_
        refine AllReadyH.cons (by rfl) (fun K hK => ?_) AllReadyH.nil
        go_simp
        try dsimp only
        refine hK.out _ _ (sixT (unhide R3)) (fun hH4 => ?_)
        clear hK K
        try simp only [Act.put, List.setIfInBounds_toArray, List.set_cons_zero, List.set_cons_succ]
        refine takeD (i := 8) (v := .string (f0 ++ (⟨#[32]⟩ : ByteArray) ++ (⟨#[60]⟩ : ByteArray))) (d := some 14) rfl (by kernel_rfl) (by kernel_rfl) (by kernel_rfl) (by kernel_rfl) (fun _ _ _ h => h) (.inl ⟨by kernel_rfl, fun w hSw => ?_⟩) (by assumption) ?_
        · obtain ⟨s0, s1, s3, s4, s5, s6⟩ := hSw
          go_simp
          all_goals ((try simp only [ByteArray.size_append, z32, zsg]); omega)
        try simp only [Act.put, List.setIfInBounds_toArray, List.set_cons_zero, List.set_cons_succ]
        refine takeD (i := 9) (v := .string (f0 ++ (⟨#[32]⟩ : ByteArray) ++ (⟨#[60]⟩ : ByteArray) ++ (⟨#[32]⟩ : ByteArray))) (d := some 15) rfl (by kernel_rfl) (by kernel_rfl) (by kernel_rfl) (by kernel_rfl) (fun _ _ _ h => h) (.inl ⟨by kernel_rfl, fun w hSw => ?_⟩) (by assumption) ?_
        · obtain ⟨s0, s1, s3, s4, s5, s6⟩ := hSw
          go_simp
          all_goals ((try simp only [ByteArray.size_append, z32, zsg]); omega)
        try simp only [Act.put, List.setIfInBounds_toArray, List.set_cons_zero, List.set_cons_succ]
        refine takeD (i := 13) (v := .string (f0 ++ (⟨#[32]⟩ : ByteArray) ++ (⟨#[60]⟩ : ByteArray) ++ (⟨#[32]⟩ : ByteArray) ++ AT)) (d := some 19) rfl (by kernel_rfl) (by kernel_rfl) (by kernel_rfl) (by kernel_rfl) (fun _ _ _ h => h) (.inl ⟨by kernel_rfl, fun w hSw => ?_⟩) (by assumption) ?_
        · obtain ⟨s0, s1, s3, s4, s5, s6⟩ := hSw
          go_simp
          all_goals ((try simp only [ByteArray.size_append, z32, zsg]); omega)
        try simp only [Act.put, List.setIfInBounds_toArray, List.set_cons_zero, List.set_cons_succ]
        refine takeD (i := 14) (v := .string (f0 ++ (⟨#[32]⟩ : ByteArray) ++ (⟨#[60]⟩ : ByteArray) ++ (⟨#[32]⟩ : ByteArray) ++ AT)) (d := some 2) rfl (by kernel_rfl) (by kernel_rfl) (by kernel_rfl) (by kernel_rfl) (fun _ _ _ h => h) (.inl ⟨by kernel_rfl, fun w hSw => ?_⟩) (by assumption) ?_
        · obtain ⟨s0, s1, s3, s4, s5, s6⟩ := hSw
          go_simp
        try simp only [Act.put, List.setIfInBounds_toArray, List.set_cons_zero, List.set_cons_succ]
        refine wpAnyH_done (by kernel_rfl) ?_ _
        go_wp2_with fail
        go_ret
        exact ⟨congrArg (fun x => Ending.returned (.string x)) ((unhide eX).trans (unhide eS)).symm, unhide B3⟩
    · have eS : Hid (T = f0 ++ sp1 ++ (⟨#[60, 61]⟩ : ByteArray) ++ sp1 ++ AT) := hide (by rw [unhide eT]; rfl)
      clear eT
      have z32 : (⟨#[32]⟩ : ByteArray).size = 1 := rfl
      have zsg : (⟨#[60, 61]⟩ : ByteArray).size = 2 := rfl
      refine wp_region_held_drew (S := fun w' => w'.cell? ⟨w.heap.size, 0, none⟩ = some (.string f0) ∧ w'.cell? ⟨w.heap.size, 1, none⟩ = some (.int .i64 3) ∧ w'.cell? ⟨w.heap.size, 3, none⟩ = some (.int .i64 f3) ∧ w'.cell? ⟨w.heap.size, 4, none⟩ = some (.int .i64 f4) ∧ w'.cell? ⟨w.heap.size, 5, none⟩ = some (.string f5) ∧ w'.cell? ⟨w.heap.size, 6, none⟩ = some (.string f6)) (by kernel_rfl) (sixT (unhide HR1)) (fun hHeld => ?_)
      refine takeD (i := 0) (v := .pointer (some ⟨w.heap.size, 0, none⟩)) (d := some 6) rfl (by kernel_rfl) (by kernel_rfl) (by kernel_rfl) (by kernel_rfl) (fun _ _ _ h => h) (.inl ⟨by kernel_rfl, fun w hSw => ?_⟩) (by assumption) ?_
      · obtain ⟨s0, s1, s3, s4, s5, s6⟩ := hSw
        go_simp
      try simp only [Act.put, List.setIfInBounds_toArray, List.set_cons_zero, List.set_cons_succ]
      refine takeD (i := 1) (v := .string f0) (d := some 7) rfl (by kernel_rfl) (by kernel_rfl) (by kernel_rfl) (by kernel_rfl) (fun _ _ _ h => h) (.inl ⟨by kernel_rfl, fun w hSw => ?_⟩) (by assumption) ?_
      · obtain ⟨s0, s1, s3, s4, s5, s6⟩ := hSw
        go_simp
      try simp only [Act.put, List.setIfInBounds_toArray, List.set_cons_zero, List.set_cons_succ]
      refine takeD (i := 2) (v := .string (f0 ++ (⟨#[32]⟩ : ByteArray))) (d := some 8) rfl (by kernel_rfl) (by kernel_rfl) (by kernel_rfl) (by kernel_rfl) (fun _ _ _ h => h) (.inl ⟨by kernel_rfl, fun w hSw => ?_⟩) (by assumption) ?_
      · obtain ⟨s0, s1, s3, s4, s5, s6⟩ := hSw
        go_simp
        all_goals ((try simp only [ByteArray.size_append, z32, zsg]); omega)
      try simp only [Act.put, List.setIfInBounds_toArray, List.set_cons_zero, List.set_cons_succ]
      refine takeD (i := 4) (v := .pointer (some ⟨w.heap.size, 1, none⟩)) (d := some 10) rfl (by kernel_rfl) (by kernel_rfl) (by kernel_rfl) (by kernel_rfl) (fun _ _ _ h => h) (.inl ⟨by kernel_rfl, fun w hSw => ?_⟩) (by assumption) ?_
      · obtain ⟨s0, s1, s3, s4, s5, s6⟩ := hSw
        go_simp
      try simp only [Act.put, List.setIfInBounds_toArray, List.set_cons_zero, List.set_cons_succ]
      refine takeD (i := 5) (v := .int .i64 3) (d := some 11) rfl (by kernel_rfl) (by kernel_rfl) (by kernel_rfl) (by kernel_rfl) (fun _ _ _ h => h) (.inl ⟨by kernel_rfl, fun w hSw => ?_⟩) (by assumption) ?_
      · obtain ⟨s0, s1, s3, s4, s5, s6⟩ := hSw
        go_simp
      try simp only [Act.put, List.setIfInBounds_toArray, List.set_cons_zero, List.set_cons_succ]
      refine takeD (i := 10) (v := .pointer (some ⟨w.heap.size, 3, none⟩)) (d := some 16) rfl (by kernel_rfl) (by kernel_rfl) (by kernel_rfl) (by kernel_rfl) (fun _ _ _ h => h) (.inl ⟨by kernel_rfl, fun w hSw => ?_⟩) (by assumption) ?_
      · obtain ⟨s0, s1, s3, s4, s5, s6⟩ := hSw
        go_simp
      try simp only [Act.put, List.setIfInBounds_toArray, List.set_cons_zero, List.set_cons_succ]
      refine takeD (i := 11) (v := .agg #[.int .i64 f3, .int .i64 f4, .string f5, .string f6]) (d := some 17) rfl (by kernel_rfl) (by kernel_rfl) (by kernel_rfl) (by kernel_rfl) (fun _ _ _ h => h) (.inl ⟨by kernel_rfl, fun w hSw => ?_⟩) (by assumption) ?_
      · obtain ⟨s0, s1, s3, s4, s5, s6⟩ := hSw
        go_simp
      try simp only [Act.put, List.setIfInBounds_toArray, List.set_cons_zero, List.set_cons_succ]
      refine wpAnyH_ready (rs := [3]) (by kernel_rfl) (by simp) ?_
      refine AllReadyH.cons (by rfl) (fun K hK => ?_) AllReadyH.nil
      go_simp
      refine (l6Ops_b _).mono ?_
      rintro e w2 ⟨b2, rfl, hr2, hb2⟩
      replace hb2 := undrewT hb2
      have R2 := hide ((unhide HR1).keep hb2)
      have B2 := hide (bTr (unhide B1) hb2)
      have RO := hide hr2
      have yo := hr2.at (o := 3) (v := .string (⟨#[60, 61]⟩ : ByteArray)) rfl
      clear hb2 hr2
      try dsimp only
      refine hK.out _ _ (sixT (unhide R2)) (fun hH2 => ?_)
      clear hK K
      try simp only [Act.put, List.setIfInBounds_toArray, List.set_cons_zero, List.set_cons_succ]
      refine takeD (i := 6) (v := .pointer (some ⟨b2, 3, none⟩)) (d := some 12) rfl (by kernel_rfl) (by kernel_rfl) (by kernel_rfl) (by kernel_rfl) (fun _ _ _ h => h) (.inl ⟨by kernel_rfl, fun w hSw => ?_⟩) (by assumption) ?_
      · obtain ⟨s0, s1, s3, s4, s5, s6⟩ := hSw
        go_simp
      try simp only [Act.put, List.setIfInBounds_toArray, List.set_cons_zero, List.set_cons_succ]
      refine wpAnyH_ready (rs := [7, 12]) (by kernel_rfl) (by simp) ?_
      refine AllReadyH.cons (by rfl) (fun K hK => ?_) (AllReadyH.cons (by rfl) (fun K hK => ?_) AllReadyH.nil)
      · go_simp
        try dsimp only
        refine hK.out _ _ (sixT (unhide R2)) (fun hH3 => ?_)
        clear hK K
        try simp only [Act.put, List.setIfInBounds_toArray, List.set_cons_zero, List.set_cons_succ]
        refine takeD (i := 8) (v := .string (f0 ++ (⟨#[32]⟩ : ByteArray) ++ (⟨#[60, 61]⟩ : ByteArray))) (d := some 14) rfl (by kernel_rfl) (by kernel_rfl) (by kernel_rfl) (by kernel_rfl) (fun _ _ _ h => h) (.inl ⟨by kernel_rfl, fun w hSw => ?_⟩) (by assumption) ?_
        · obtain ⟨s0, s1, s3, s4, s5, s6⟩ := hSw
          go_simp
          all_goals ((try simp only [ByteArray.size_append, z32, zsg]); omega)
        try simp only [Act.put, List.setIfInBounds_toArray, List.set_cons_zero, List.set_cons_succ]
        refine takeD (i := 9) (v := .string (f0 ++ (⟨#[32]⟩ : ByteArray) ++ (⟨#[60, 61]⟩ : ByteArray) ++ (⟨#[32]⟩ : ByteArray))) (d := some 15) rfl (by kernel_rfl) (by kernel_rfl) (by kernel_rfl) (by kernel_rfl) (fun _ _ _ h => h) (.inl ⟨by kernel_rfl, fun w hSw => ?_⟩) (by assumption) ?_
        · obtain ⟨s0, s1, s3, s4, s5, s6⟩ := hSw
          go_simp
          all_goals ((try simp only [ByteArray.size_append, z32, zsg]); omega)
        try simp only [Act.put, List.setIfInBounds_toArray, List.set_cons_zero, List.set_cons_succ]
        refine wpAnyH_ready (rs := [12]) (by kernel_rfl) (by simp) ?_
        refine AllReadyH.cons (by rfl) (fun K hK => ?_) AllReadyH.nil
        go_simp
        refine (unhide q2 _).mono ?_
        rintro e w3 ⟨rfl, hb3⟩
        have R3 := hide ((unhide R2).keep hb3)
        have B3 := hide (bTr (unhide B2) hb3)
        clear hb3
        try dsimp only
        refine hK.out _ _ (sixT (unhide R3)) (fun hH4 => ?_)
        clear hK K
        try simp only [Act.put, List.setIfInBounds_toArray, List.set_cons_zero, List.set_cons_succ]
        refine takeD (i := 13) (v := .string (f0 ++ (⟨#[32]⟩ : ByteArray) ++ (⟨#[60, 61]⟩ : ByteArray) ++ (⟨#[32]⟩ : ByteArray) ++ AT)) (d := some 19) rfl (by kernel_rfl) (by kernel_rfl) (by kernel_rfl) (by kernel_rfl) (fun _ _ _ h => h) (.inl ⟨by kernel_rfl, fun w hSw => ?_⟩) (by assumption) ?_
        · obtain ⟨s0, s1, s3, s4, s5, s6⟩ := hSw
          go_simp
          all_goals ((try simp only [ByteArray.size_append, z32, zsg]); omega)
        try simp only [Act.put, List.setIfInBounds_toArray, List.set_cons_zero, List.set_cons_succ]
        refine takeD (i := 14) (v := .string (f0 ++ (⟨#[32]⟩ : ByteArray) ++ (⟨#[60, 61]⟩ : ByteArray) ++ (⟨#[32]⟩ : ByteArray) ++ AT)) (d := some 2) rfl (by kernel_rfl) (by kernel_rfl) (by kernel_rfl) (by kernel_rfl) (fun _ _ _ h => h) (.inl ⟨by kernel_rfl, fun w hSw => ?_⟩) (by assumption) ?_
        · obtain ⟨s0, s1, s3, s4, s5, s6⟩ := hSw
          go_simp
        try simp only [Act.put, List.setIfInBounds_toArray, List.set_cons_zero, List.set_cons_succ]
        refine wpAnyH_done (by kernel_rfl) ?_ _
        go_wp2_with fail
        go_ret
        exact ⟨congrArg (fun x => Ending.returned (.string x)) ((unhide eX).trans (unhide eS)).symm, unhide B3⟩
      · go_simp
        refine (unhide q2 _).mono ?_
        rintro e w3 ⟨rfl, hb3⟩
        have R3 := hide ((unhide R2).keep hb3)
        have B3 := hide (bTr (unhide B2) hb3)
        have yo := ((unhide RO).keep hb3).at (o := 3) (v := .string (⟨#[60, 61]⟩ : ByteArray)) rfl
        clear hb3
        try dsimp only
        refine hK.out _ _ (sixT (unhide R3)) (fun hH3 => ?_)
        clear hK K
        try simp only [Act.put, List.setIfInBounds_toArray, List.set_cons_zero, List.set_cons_succ]
        refine wpAnyH_ready (rs := [7]) (by kernel_rfl) (by simp) ?_
        refine AllReadyH.cons (by rfl) (fun K hK => ?_) AllReadyH.nil
        go_simp
        try dsimp only
        refine hK.out _ _ (sixT (unhide R3)) (fun hH4 => ?_)
        clear hK K
        try simp only [Act.put, List.setIfInBounds_toArray, List.set_cons_zero, List.set_cons_succ]
        refine takeD (i := 8) (v := .string (f0 ++ (⟨#[32]⟩ : ByteArray) ++ (⟨#[60, 61]⟩ : ByteArray))) (d := some 14) rfl (by kernel_rfl) (by kernel_rfl) (by kernel_rfl) (by kernel_rfl) (fun _ _ _ h => h) (.inl ⟨by kernel_rfl, fun w hSw => ?_⟩) (by assumption) ?_
        · obtain ⟨s0, s1, s3, s4, s5, s6⟩ := hSw
          go_simp
          all_goals ((try simp only [ByteArray.size_append, z32, zsg]); omega)
        try simp only [Act.put, List.setIfInBounds_toArray, List.set_cons_zero, List.set_cons_succ]
        refine takeD (i := 9) (v := .string (f0 ++ (⟨#[32]⟩ : ByteArray) ++ (⟨#[60, 61]⟩ : ByteArray) ++ (⟨#[32]⟩ : ByteArray))) (d := some 15) rfl (by kernel_rfl) (by kernel_rfl) (by kernel_rfl) (by kernel_rfl) (fun _ _ _ h => h) (.inl ⟨by kernel_rfl, fun w hSw => ?_⟩) (by assumption) ?_
        · obtain ⟨s0, s1, s3, s4, s5, s6⟩ := hSw
          go_simp
          all_goals ((try simp only [ByteArray.size_append, z32, zsg]); omega)
        try simp only [Act.put, List.setIfInBounds_toArray, List.set_cons_zero, List.set_cons_succ]
        refine takeD (i := 13) (v := .string (f0 ++ (⟨#[32]⟩ : ByteArray) ++ (⟨#[60, 61]⟩ : ByteArray) ++ (⟨#[32]⟩ : ByteArray) ++ AT)) (d := some 19) rfl (by kernel_rfl) (by kernel_rfl) (by kernel_rfl) (by kernel_rfl) (fun _ _ _ h => h) (.inl ⟨by kernel_rfl, fun w hSw => ?_⟩) (by assumption) ?_
        · obtain ⟨s0, s1, s3, s4, s5, s6⟩ := hSw
          go_simp
          all_goals ((try simp only [ByteArray.size_append, z32, zsg]); omega)
        try simp only [Act.put, List.setIfInBounds_toArray, List.set_cons_zero, List.set_cons_succ]
        refine takeD (i := 14) (v := .string (f0 ++ (⟨#[32]⟩ : ByteArray) ++ (⟨#[60, 61]⟩ : ByteArray) ++ (⟨#[32]⟩ : ByteArray) ++ AT)) (d := some 2) rfl (by kernel_rfl) (by kernel_rfl) (by kernel_rfl) (by kernel_rfl) (fun _ _ _ h => h) (.inl ⟨by kernel_rfl, fun w hSw => ?_⟩) (by assumption) ?_
        · obtain ⟨s0, s1, s3, s4, s5, s6⟩ := hSw
          go_simp
        try simp only [Act.put, List.setIfInBounds_toArray, List.set_cons_zero, List.set_cons_succ]
        refine wpAnyH_done (by kernel_rfl) ?_ _
        go_wp2_with fail
        go_ret
        exact ⟨congrArg (fun x => Ending.returned (.string x)) ((unhide eX).trans (unhide eS)).symm, unhide B3⟩
    · have eS : Hid (T = f0 ++ sp1 ++ (⟨#[105, 110]⟩ : ByteArray) ++ sp1 ++ AT) := hide (by rw [unhide eT]; rfl)
      clear eT
      have z32 : (⟨#[32]⟩ : ByteArray).size = 1 := rfl
      have zsg : (⟨#[105, 110]⟩ : ByteArray).size = 2 := rfl
      refine wp_region_held_drew (S := fun w' => w'.cell? ⟨w.heap.size, 0, none⟩ = some (.string f0) ∧ w'.cell? ⟨w.heap.size, 1, none⟩ = some (.int .i64 4) ∧ w'.cell? ⟨w.heap.size, 3, none⟩ = some (.int .i64 f3) ∧ w'.cell? ⟨w.heap.size, 4, none⟩ = some (.int .i64 f4) ∧ w'.cell? ⟨w.heap.size, 5, none⟩ = some (.string f5) ∧ w'.cell? ⟨w.heap.size, 6, none⟩ = some (.string f6)) (by kernel_rfl) (sixT (unhide HR1)) (fun hHeld => ?_)
      refine takeD (i := 0) (v := .pointer (some ⟨w.heap.size, 0, none⟩)) (d := some 6) rfl (by kernel_rfl) (by kernel_rfl) (by kernel_rfl) (by kernel_rfl) (fun _ _ _ h => h) (.inl ⟨by kernel_rfl, fun w hSw => ?_⟩) (by assumption) ?_
      · obtain ⟨s0, s1, s3, s4, s5, s6⟩ := hSw
        go_simp
      try simp only [Act.put, List.setIfInBounds_toArray, List.set_cons_zero, List.set_cons_succ]
      refine takeD (i := 1) (v := .string f0) (d := some 7) rfl (by kernel_rfl) (by kernel_rfl) (by kernel_rfl) (by kernel_rfl) (fun _ _ _ h => h) (.inl ⟨by kernel_rfl, fun w hSw => ?_⟩) (by assumption) ?_
      · obtain ⟨s0, s1, s3, s4, s5, s6⟩ := hSw
        go_simp
      try simp only [Act.put, List.setIfInBounds_toArray, List.set_cons_zero, List.set_cons_succ]
      refine takeD (i := 2) (v := .string (f0 ++ (⟨#[32]⟩ : ByteArray))) (d := some 8) rfl (by kernel_rfl) (by kernel_rfl) (by kernel_rfl) (by kernel_rfl) (fun _ _ _ h => h) (.inl ⟨by kernel_rfl, fun w hSw => ?_⟩) (by assumption) ?_
      · obtain ⟨s0, s1, s3, s4, s5, s6⟩ := hSw
        go_simp
        all_goals ((try simp only [ByteArray.size_append, z32, zsg]); omega)
      try simp only [Act.put, List.setIfInBounds_toArray, List.set_cons_zero, List.set_cons_succ]
      refine takeD (i := 4) (v := .pointer (some ⟨w.heap.size, 1, none⟩)) (d := some 10) rfl (by kernel_rfl) (by kernel_rfl) (by kernel_rfl) (by kernel_rfl) (fun _ _ _ h => h) (.inl ⟨by kernel_rfl, fun w hSw => ?_⟩) (by assumption) ?_
      · obtain ⟨s0, s1, s3, s4, s5, s6⟩ := hSw
        go_simp
      try simp only [Act.put, List.setIfInBounds_toArray, List.set_cons_zero, List.set_cons_succ]
      refine takeD (i := 5) (v := .int .i64 4) (d := some 11) rfl (by kernel_rfl) (by kernel_rfl) (by kernel_rfl) (by kernel_rfl) (fun _ _ _ h => h) (.inl ⟨by kernel_rfl, fun w hSw => ?_⟩) (by assumption) ?_
      · obtain ⟨s0, s1, s3, s4, s5, s6⟩ := hSw
        go_simp
      try simp only [Act.put, List.setIfInBounds_toArray, List.set_cons_zero, List.set_cons_succ]
      refine takeD (i := 10) (v := .pointer (some ⟨w.heap.size, 3, none⟩)) (d := some 16) rfl (by kernel_rfl) (by kernel_rfl) (by kernel_rfl) (by kernel_rfl) (fun _ _ _ h => h) (.inl ⟨by kernel_rfl, fun w hSw => ?_⟩) (by assumption) ?_
      · obtain ⟨s0, s1, s3, s4, s5, s6⟩ := hSw
        go_simp
      try simp only [Act.put, List.setIfInBounds_toArray, List.set_cons_zero, List.set_cons_succ]
      refine takeD (i := 11) (v := .agg #[.int .i64 f3, .int .i64 f4, .string f5, .string f6]) (d := some 17) rfl (by kernel_rfl) (by kernel_rfl) (by kernel_rfl) (by kernel_rfl) (fun _ _ _ h => h) (.inl ⟨by kernel_rfl, fun w hSw => ?_⟩) (by assumption) ?_
      · obtain ⟨s0, s1, s3, s4, s5, s6⟩ := hSw
        go_simp
      try simp only [Act.put, List.setIfInBounds_toArray, List.set_cons_zero, List.set_cons_succ]
      refine wpAnyH_ready (rs := [3]) (by kernel_rfl) (by simp) ?_
      refine AllReadyH.cons (by rfl) (fun K hK => ?_) AllReadyH.nil
      go_simp
      refine (l6Ops_b _).mono ?_
      rintro e w2 ⟨b2, rfl, hr2, hb2⟩
      replace hb2 := undrewT hb2
      have R2 := hide ((unhide HR1).keep hb2)
      have B2 := hide (bTr (unhide B1) hb2)
      have RO := hide hr2
      have yo := hr2.at (o := 4) (v := .string (⟨#[105, 110]⟩ : ByteArray)) rfl
      clear hb2 hr2
      try dsimp only
      refine hK.out _ _ (sixT (unhide R2)) (fun hH2 => ?_)
      clear hK K
      try simp only [Act.put, List.setIfInBounds_toArray, List.set_cons_zero, List.set_cons_succ]
      refine takeD (i := 6) (v := .pointer (some ⟨b2, 4, none⟩)) (d := some 12) rfl (by kernel_rfl) (by kernel_rfl) (by kernel_rfl) (by kernel_rfl) (fun _ _ _ h => h) (.inl ⟨by kernel_rfl, fun w hSw => ?_⟩) (by assumption) ?_
      · obtain ⟨s0, s1, s3, s4, s5, s6⟩ := hSw
        go_simp
      try simp only [Act.put, List.setIfInBounds_toArray, List.set_cons_zero, List.set_cons_succ]
      refine wpAnyH_ready (rs := [7, 12]) (by kernel_rfl) (by simp) ?_
      refine AllReadyH.cons (by rfl) (fun K hK => ?_) (AllReadyH.cons (by rfl) (fun K hK => ?_) AllReadyH.nil)
      · go_simp
        try dsimp only
        refine hK.out _ _ (sixT (unhide R2)) (fun hH3 => ?_)
        clear hK K
        try simp only [Act.put, List.setIfInBounds_toArray, List.set_cons_zero, List.set_cons_succ]
        refine takeD (i := 8) (v := .string (f0 ++ (⟨#[32]⟩ : ByteArray) ++ (⟨#[105, 110]⟩ : ByteArray))) (d := some 14) rfl (by kernel_rfl) (by kernel_rfl) (by kernel_rfl) (by kernel_rfl) (fun _ _ _ h => h) (.inl ⟨by kernel_rfl, fun w hSw => ?_⟩) (by assumption) ?_
        · obtain ⟨s0, s1, s3, s4, s5, s6⟩ := hSw
          go_simp
          all_goals ((try simp only [ByteArray.size_append, z32, zsg]); omega)
        try simp only [Act.put, List.setIfInBounds_toArray, List.set_cons_zero, List.set_cons_succ]
        refine takeD (i := 9) (v := .string (f0 ++ (⟨#[32]⟩ : ByteArray) ++ (⟨#[105, 110]⟩ : ByteArray) ++ (⟨#[32]⟩ : ByteArray))) (d := some 15) rfl (by kernel_rfl) (by kernel_rfl) (by kernel_rfl) (by kernel_rfl) (fun _ _ _ h => h) (.inl ⟨by kernel_rfl, fun w hSw => ?_⟩) (by assumption) ?_
        · obtain ⟨s0, s1, s3, s4, s5, s6⟩ := hSw
          go_simp
          all_goals ((try simp only [ByteArray.size_append, z32, zsg]); omega)
        try simp only [Act.put, List.setIfInBounds_toArray, List.set_cons_zero, List.set_cons_succ]
        refine wpAnyH_ready (rs := [12]) (by kernel_rfl) (by simp) ?_
        refine AllReadyH.cons (by rfl) (fun K hK => ?_) AllReadyH.nil
        go_simp
        refine (unhide q2 _).mono ?_
        rintro e w3 ⟨rfl, hb3⟩
        have R3 := hide ((unhide R2).keep hb3)
        have B3 := hide (bTr (unhide B2) hb3)
        clear hb3
        try dsimp only
        refine hK.out _ _ (sixT (unhide R3)) (fun hH4 => ?_)
        clear hK K
        try simp only [Act.put, List.setIfInBounds_toArray, List.set_cons_zero, List.set_cons_succ]
        refine takeD (i := 13) (v := .string (f0 ++ (⟨#[32]⟩ : ByteArray) ++ (⟨#[105, 110]⟩ : ByteArray) ++ (⟨#[32]⟩ : ByteArray) ++ AT)) (d := some 19) rfl (by kernel_rfl) (by kernel_rfl) (by kernel_rfl) (by kernel_rfl) (fun _ _ _ h => h) (.inl ⟨by kernel_rfl, fun w hSw => ?_⟩) (by assumption) ?_
        · obtain ⟨s0, s1, s3, s4, s5, s6⟩ := hSw
          go_simp
          all_goals ((try simp only [ByteArray.size_append, z32, zsg]); omega)
        try simp only [Act.put, List.setIfInBounds_toArray, List.set_cons_zero, List.set_cons_succ]
        refine takeD (i := 14) (v := .string (f0 ++ (⟨#[32]⟩ : ByteArray) ++ (⟨#[105, 110]⟩ : ByteArray) ++ (⟨#[32]⟩ : ByteArray) ++ AT)) (d := some 2) rfl (by kernel_rfl) (by kernel_rfl) (by kernel_rfl) (by kernel_rfl) (fun _ _ _ h => h) (.inl ⟨by kernel_rfl, fun w hSw => ?_⟩) (by assumption) ?_
        · obtain ⟨s0, s1, s3, s4, s5, s6⟩ := hSw
          go_simp
        try simp only [Act.put, List.setIfInBounds_toArray, List.set_cons_zero, List.set_cons_succ]
        refine wpAnyH_done (by kernel_rfl) ?_ _
        go_wp2_with fail
        go_ret
        exact ⟨congrArg (fun x => Ending.returned (.string x)) ((unhide eX).trans (unhide eS)).symm, unhide B3⟩
      · go_simp
        refine (unhide q2 _).mono ?_
        rintro e w3 ⟨rfl, hb3⟩
        have R3 := hide ((unhide R2).keep hb3)
        have B3 := hide (bTr (unhide B2) hb3)
        have yo := ((unhide RO).keep hb3).at (o := 4) (v := .string (⟨#[105, 110]⟩ : ByteArray)) rfl
        clear hb3
        try dsimp only
        refine hK.out _ _ (sixT (unhide R3)) (fun hH3 => ?_)
        clear hK K
        try simp only [Act.put, List.setIfInBounds_toArray, List.set_cons_zero, List.set_cons_succ]
        refine wpAnyH_ready (rs := [7]) (by kernel_rfl) (by simp) ?_
        refine AllReadyH.cons (by rfl) (fun K hK => ?_) AllReadyH.nil
        go_simp
        try dsimp only
        refine hK.out _ _ (sixT (unhide R3)) (fun hH4 => ?_)
        clear hK K
        try simp only [Act.put, List.setIfInBounds_toArray, List.set_cons_zero, List.set_cons_succ]
        refine takeD (i := 8) (v := .string (f0 ++ (⟨#[32]⟩ : ByteArray) ++ (⟨#[105, 110]⟩ : ByteArray))) (d := some 14) rfl (by kernel_rfl) (by kernel_rfl) (by kernel_rfl) (by kernel_rfl) (fun _ _ _ h => h) (.inl ⟨by kernel_rfl, fun w hSw => ?_⟩) (by assumption) ?_
        · obtain ⟨s0, s1, s3, s4, s5, s6⟩ := hSw
          go_simp
          all_goals ((try simp only [ByteArray.size_append, z32, zsg]); omega)
        try simp only [Act.put, List.setIfInBounds_toArray, List.set_cons_zero, List.set_cons_succ]
        refine takeD (i := 9) (v := .string (f0 ++ (⟨#[32]⟩ : ByteArray) ++ (⟨#[105, 110]⟩ : ByteArray) ++ (⟨#[32]⟩ : ByteArray))) (d := some 15) rfl (by kernel_rfl) (by kernel_rfl) (by kernel_rfl) (by kernel_rfl) (fun _ _ _ h => h) (.inl ⟨by kernel_rfl, fun w hSw => ?_⟩) (by assumption) ?_
        · obtain ⟨s0, s1, s3, s4, s5, s6⟩ := hSw
          go_simp
          all_goals ((try simp only [ByteArray.size_append, z32, zsg]); omega)
        try simp only [Act.put, List.setIfInBounds_toArray, List.set_cons_zero, List.set_cons_succ]
        refine takeD (i := 13) (v := .string (f0 ++ (⟨#[32]⟩ : ByteArray) ++ (⟨#[105, 110]⟩ : ByteArray) ++ (⟨#[32]⟩ : ByteArray) ++ AT)) (d := some 19) rfl (by kernel_rfl) (by kernel_rfl) (by kernel_rfl) (by kernel_rfl) (fun _ _ _ h => h) (.inl ⟨by kernel_rfl, fun w hSw => ?_⟩) (by assumption) ?_
        · obtain ⟨s0, s1, s3, s4, s5, s6⟩ := hSw
          go_simp
          all_goals ((try simp only [ByteArray.size_append, z32, zsg]); omega)
        try simp only [Act.put, List.setIfInBounds_toArray, List.set_cons_zero, List.set_cons_succ]
        refine takeD (i := 14) (v := .string (f0 ++ (⟨#[32]⟩ : ByteArray) ++ (⟨#[105, 110]⟩ : ByteArray) ++ (⟨#[32]⟩ : ByteArray) ++ AT)) (d := some 2) rfl (by kernel_rfl) (by kernel_rfl) (by kernel_rfl) (by kernel_rfl) (fun _ _ _ h => h) (.inl ⟨by kernel_rfl, fun w hSw => ?_⟩) (by assumption) ?_
        · obtain ⟨s0, s1, s3, s4, s5, s6⟩ := hSw
          go_simp
        try simp only [Act.put, List.setIfInBounds_toArray, List.set_cons_zero, List.set_cons_succ]
        refine wpAnyH_done (by kernel_rfl) ?_ _
        go_wp2_with fail
        go_ret
        exact ⟨congrArg (fun x => Ending.returned (.string x)) ((unhide eX).trans (unhide eS)).symm, unhide B3⟩
  · have hb : termB x = false := by simpa using hg
    have eX := hide (show termX x = ⟨#[]⟩ from if_neg hg)
    rw [hb] at q1
    generalize termX x = TX at eX ⊢
    clear hb hg ok
    obtain ⟨f0, f1, f2, f3, f4, f5, f6⟩ := x
    simp only at q1 ⊢
    obtain ⟨W, hW⟩ : ∃ W, W = w.alloc (.cells #[.string f0, .int .i64 f1, .string f2, .int .i64 f3, .int .i64 f4, .string f5, .string f6] 58) := ⟨_, rfl⟩
    have B := hide (show Below w.heap.size w W by rw [hW]; exact bAl (Below.refl _ _) _)
    have R := hide (show RowIs W w.heap.size #[.string f0, .int .i64 f1, .string f2, .int .i64 f3, .int .i64 f4, .string f5, .string f6] 58 by rw [hW]; exact RowIs.new _ _ _)
    have HW := hide hW.symm
    clear hW
    go_enter Tryz.func43, Tryz.ntmps43
    go_wp2_with fail
    rw [unhide HW]
    refine (unhide q1 _).mono ?_
    rintro e1 w1 ⟨rfl, hb1⟩
    have B1 := hide (bTr (unhide B) hb1)
    clear hb1 B
    go_wp2_with fail
    go_ret
    exact ⟨congrArg (fun x => Ending.returned (.string x)) (unhide eX).symm, unhide B1⟩
set_option maxHeartbeats 2000000 in
theorem iTermText_any (x : CavTermT) (w : World) (ok : x.Ok) (hS : Signs w) (hT : Tab w) :
    Calls Tryz.prog 82 #[.agg #[.string x.f0, .int .i64 x.f1, .string x.f2, .int .i64 x.f3, .int .i64 x.f4, .string x.f5, .string x.f6]] w fun e w' => e = .returned (.string (termX x)) ∧ Below w.heap.size w w' := by
  have q1 := hide (fun w => isCapTerm_any x w ok)
  have q2 := hide (fun w hS hT hg => termText_any x w ok hS hT hg)
  have HS := hide hS
  have HT := hide hT
  clear hS hT
  by_cases hg : termB x = true
  · have eX := hide (show termX x = termL x from if_pos hg)
    have HG := hide hg
    replace q2 := hide (fun w hS hT => unhide q2 w hS hT hg)
    rw [hg] at q1
    generalize termX x = TX at eX ⊢
    generalize termL x = T at q2 eX
    clear ok hg
    obtain ⟨f0, f1, f2, f3, f4, f5, f6⟩ := x
    simp only at q1 q2 ⊢
    obtain ⟨W, hW⟩ : ∃ W, W = w.alloc (.cells #[.string f0, .int .i64 f1, .string f2, .int .i64 f3, .int .i64 f4, .string f5, .string f6] 58) := ⟨_, rfl⟩
    have B := hide (show Below w.heap.size w W by rw [hW]; exact bAl (Below.refl _ _) _)
    have R := hide (show RowIs W w.heap.size #[.string f0, .int .i64 f1, .string f2, .int .i64 f3, .int .i64 f4, .string f5, .string f6] 58 by rw [hW]; exact RowIs.new _ _ _)
    have HW := hide hW.symm
    clear hW
    go_enter Tryz.func82, Tryz.ntmps82
    go_wp2_with fail
    rw [unhide HW]
    refine (unhide q1 _).mono ?_
    rintro e1 w1 ⟨rfl, hb1⟩
    have B1 := hide (bTr (unhide B) hb1)
    have R1 := hide ((unhide R).keep hb1)
    clear hb1 B HW R q1
    have c0 := (unhide R1).at (o := 0) (v := .string f0) rfl
    have c1 := (unhide R1).at (o := 1) (v := .int .i64 f1) rfl
    have c2 := (unhide R1).at (o := 2) (v := .string f2) rfl
    have c3 := (unhide R1).at (o := 3) (v := .int .i64 f3) rfl
    have c4 := (unhide R1).at (o := 4) (v := .int .i64 f4) rfl
    have c5 := (unhide R1).at (o := 5) (v := .string f5) rfl
    have c6 := (unhide R1).at (o := 6) (v := .string f6) rfl
    go_wp2_with fail
    refine (unhide q2 _ ((unhide HS).keep (unhide B1)) ((unhide HT).keep (unhide B1))).mono ?_
    rintro e2 w2 ⟨rfl, hb2⟩
    have B2 := hide (bTr (unhide B1) hb2)
    clear hb2
    go_wp2_with fail
    go_ret
    exact ⟨congrArg (fun x => Ending.returned (.string x)) (unhide eX).symm, unhide B2⟩
  · have hb : termB x = false := by simpa using hg
    have eX := hide (show termX x = ⟨#[]⟩ from if_neg hg)
    rw [hb] at q1
    generalize termX x = TX at eX ⊢
    clear hb hg ok q2 HS HT
    obtain ⟨f0, f1, f2, f3, f4, f5, f6⟩ := x
    simp only at q1 ⊢
    obtain ⟨W, hW⟩ : ∃ W, W = w.alloc (.cells #[.string f0, .int .i64 f1, .string f2, .int .i64 f3, .int .i64 f4, .string f5, .string f6] 58) := ⟨_, rfl⟩
    have B := hide (show Below w.heap.size w W by rw [hW]; exact bAl (Below.refl _ _) _)
    have R := hide (show RowIs W w.heap.size #[.string f0, .int .i64 f1, .string f2, .int .i64 f3, .int .i64 f4, .string f5, .string f6] 58 by rw [hW]; exact RowIs.new _ _ _)
    have HW := hide hW.symm
    clear hW
    go_enter Tryz.func82, Tryz.ntmps82
    go_wp2_with fail
    rw [unhide HW]
    refine (unhide q1 _).mono ?_
    rintro e1 w1 ⟨rfl, hb1⟩
    have B1 := hide (bTr (unhide B) hb1)
    clear hb1 B
    go_wp2_with fail
    go_ret
    exact ⟨congrArg (fun x => Ending.returned (.string x)) (unhide eX).symm, unhide B1⟩
end Go.Proofs.YtdflnjjomljgmaaGreatDoor.V
