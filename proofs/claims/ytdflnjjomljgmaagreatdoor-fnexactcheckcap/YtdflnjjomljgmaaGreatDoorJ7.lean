/- QAtI, QAtJ, one behind the other. -/
import Derived.Test.YtdflnjjomljgmaaGreatDoorJ6
import Derived.Deep.RegionWith
/- impl.goodBlock (70), impl.goodNum (50). -/
namespace Go.Proofs.YtdflnjjomljgmaaGreatDoor
open Go.RowKit

/-- A block of addresses: first and bits in one number. -/
def blockB (n : Int) : Bool := decide (0 ≤ n) && (decide (n % 64 ≤ 32) && (decide (n / 64 < 4294967296) && ((n / 64) % pw (32 - n % 64).toNat == 0)))

set_option maxHeartbeats 400000 in
theorem goodBlock_any (n : Int) (w : World) (h9 : n ≤ 9223372036854775807) :
    Calls Tryz.prog 110 #[.int .i64 n] w fun e w' => e = .returned (.bool (blockB n)) ∧ Below w.heap.size w w' := by
  by_cases h0 : n < 0
  · have hb : blockB n = false := by unfold blockB; rw [decide_eq_false (p := 0 ≤ n) (by omega)]; rfl
    have H := hide hb
    clear hb
    go_enter Tryz.func110, Tryz.ntmps110
    go_wp2
    go_ret
    exact ⟨ret_bool (unhide H).symm, Below.refl _ _⟩
  have hn : (n < 0) = False := by simp; omega
  have hc := hide (fun w => blockOf_any n w (by omega) h9)
  by_cases h1 : n % 64 ≤ 32
  · by_cases h2 : n / 64 < 4294967296
    · have d1 : decide (n % 64 ≤ 32) = true := by simpa using h1
      have d2 : decide (n / 64 < 4294967296) = true := by simpa using h2
      have e1 : (n / 64).tmod (pw (32 - n % 64).toNat) = (n / 64) % pw (32 - n % 64).toNat := Int.tmod_eq_emod_of_nonneg (by omega)
      have hp := pw_pos (32 - n % 64).toNat
      have hs := hide (fun w => size_any (n / 64) (n % 64) w (by omega) (by omega))
      have hb : blockB n = ((n / 64) % pw (32 - n % 64).toNat == 0) := by unfold blockB; rw [d1, d2, decide_eq_true (p := 0 ≤ n) (by omega)]; simp
      have H := hide hb
      clear hb
      go_enter Tryz.func110, Tryz.ntmps110
      go_wp2_with (go_at_call 129; refine (unhide hc _).mono ?_; rintro e w' ⟨rfl, rfl⟩)
      go_region_with (go_at_call 130; refine (unhide hs _).mono ?_; rintro e w' ⟨rfl, rfl⟩)
      all_goals
        go_wp2
        go_ret
        refine ⟨ret_bool ?_, ?_⟩
        · rw [unhide H]
        · (repeat (first | exact Below.refl _ _ | refine below_drewN ?_ _ | refine Below.drew ?_ | refine bAl ?_ _))
    · have d1 : decide (n % 64 ≤ 32) = true := by simpa using h1
      have d2 : decide (n / 64 < 4294967296) = false := by simpa using h2
      have hb : blockB n = false := by unfold blockB; rw [d2]; simp
      have H := hide hb
      clear hb
      go_enter Tryz.func110, Tryz.ntmps110
      go_wp2_with (go_at_call 129; refine (unhide hc _).mono ?_; rintro e w' ⟨rfl, rfl⟩)
      go_quiet (fail)
      go_wp2
      go_ret
      exact ⟨ret_bool (unhide H).symm, below_drewN (((Below.refl _ _).alloc (Nat.le_refl _) _).alloc (by simp) _) _⟩
  · have d1 : decide (n % 64 ≤ 32) = false := by simpa using h1
    have hb : blockB n = false := by unfold blockB; rw [d1]; simp
    have H := hide hb
    clear hb
    go_enter Tryz.func110, Tryz.ntmps110
    go_wp2_with (go_at_call 129; refine (unhide hc _).mono ?_; rintro e w' ⟨rfl, rfl⟩)
    go_quiet (fail)
    go_wp2
    go_ret
    exact ⟨ret_bool (unhide H).symm, below_drewN (((Below.refl _ _).alloc (Nat.le_refl _) _).alloc (by simp) _) _⟩

def numB (k n : Int) : Bool := if k = 1 then n == 0 || n == 1 else if k = 6 then blockB n else if k = 7 then decide (-100000000000 ≤ n) && decide (n ≤ 100000000000) else true

theorem goodNum_any (k n : Int) (w : World) (h9 : n ≤ 9223372036854775807) :
    Calls Tryz.prog 95 #[.int .i64 k, .int .i64 n] w fun e w' => e = .returned (.bool (numB k n)) ∧ Below w.heap.size w w' := by
  unfold numB
  by_cases h1 : k = 1
  · subst h1
    rw [if_pos rfl]
    go_enter Tryz.func95, Tryz.ntmps95
    go_wp2
    all_goals go_ret
    all_goals exact ⟨ret_bool (by simp [*]), Below.refl _ _⟩
  rw [if_neg h1]
  have t1 : (k == 1) = false := by simpa using h1
  by_cases h2 : k = 6
  · subst h2
    rw [if_pos rfl]
    go_enter Tryz.func95, Tryz.ntmps95
    go_wp2_with (go_at_call 110; refine (goodBlock_any _ _ h9).mono ?_; rintro e w' ⟨rfl, hb⟩)
    go_ret
    exact ⟨rfl, hb⟩
  rw [if_neg h2]
  have t2 : (k == 6) = false := by simpa using h2
  by_cases h3 : k = 7
  · subst h3
    rw [if_pos rfl]
    go_enter Tryz.func95, Tryz.ntmps95
    go_wp2
    all_goals go_ret
    all_goals refine ⟨ret_bool ?_, Below.refl _ _⟩
    all_goals (rw [Bool.eq_iff_iff]; simp; try omega)
  rw [if_neg h3]
  have t3 : (k == 7) = false := by simpa using h3
  clear h1 h2 h3
  go_enter Tryz.func95, Tryz.ntmps95
  go_wp2
  go_ret
  exact ⟨rfl, Below.refl _ _⟩
end Go.Proofs.YtdflnjjomljgmaaGreatDoor
/- impl.GoodAtom (23). -/
namespace Go.Proofs.YtdflnjjomljgmaaGreatDoor
open Go.RowKit

def gText (s : ByteArray) : Bool := decide (s.size ≤ 200) && textL s
def goodAtom (k n : Int) (t ty : ByteArray) : Bool :=
  if k = 3 then ty.toList.isEmpty && (n == 0) && gText t
  else if k = 4 then (n == 0) && goodName ty && !t.toList.isEmpty && gText t
  else if k = 1 ∨ k = 2 ∨ k = 5 ∨ k = 6 ∨ k = 7 then t.toList.isEmpty && ty.toList.isEmpty && numB k n
  else false

theorem cell_al (w : World) (C : Array Value) (t : TypeId) (j : Nat) : (w.alloc (.cells C t)).cell? ⟨w.heap.size, j, none⟩ = C[j]? := World.cell?_alloc_mark w C t _ j
theorem cell_keep {w w1 : World} {C : Array Value} {t : TypeId} (hb : Below (w.alloc (.cells C t)).heap.size (w.alloc (.cells C t)) w1) (j : Nat) : w1.cell? ⟨w.heap.size, j, none⟩ = C[j]? := by
  rw [hb.cell (by simp)]; exact cell_al w C t j

theorem goodAtom_plain {k : Int} (hk : k = 1 ∨ k = 2 ∨ k = 5 ∨ k = 6 ∨ k = 7) (n : Int) (t ty : ByteArray) : goodAtom k n t ty = (t.toList.isEmpty && ty.toList.isEmpty && numB k n) := by
  unfold goodAtom
  rw [if_neg (by omega), if_neg (by omega), if_pos hk]
theorem goodAtom_3 (n : Int) (t ty : ByteArray) : goodAtom 3 n t ty = (ty.toList.isEmpty && (n == 0) && gText t) := by
  unfold goodAtom; rw [if_pos rfl]
theorem goodAtom_4 (n : Int) (t ty : ByteArray) : goodAtom 4 n t ty = ((n == 0) && goodName ty && !t.toList.isEmpty && gText t) := by
  unfold goodAtom; rw [if_neg (by omega), if_pos rfl]
theorem goodAtom_else {k : Int} (h1 : ¬ k = 1) (h2 : ¬ k = 2) (h3 : ¬ k = 3) (h4 : ¬ k = 4) (h5 : ¬ k = 5) (h6 : ¬ k = 6) (h7 : ¬ k = 7) (n : Int) (t ty : ByteArray) : goodAtom k n t ty = false := by
  unfold goodAtom
  rw [if_neg h3, if_neg h4, if_neg (by omega)]

set_option maxHeartbeats 1000000 in
theorem iGoodAtom_plain (k n : Int) (hk : k = 1 ∨ k = 2 ∨ k = 5 ∨ k = 6 ∨ k = 7) (t ty : ByteArray) (w : World) (h9 : n ≤ 9223372036854775807) :
    Calls Tryz.prog 77 #[.agg #[.int .i64 k, .int .i64 n, .string t, .string ty]] w fun e w' => e = .returned (.bool (goodAtom k n t ty)) ∧ Below w.heap.size w w' := by
  rw [goodAtom_plain hk]
  rcases hk with rfl | rfl | rfl | rfl | rfl
  all_goals
    go_enter Tryz.func77, Tryz.ntmps77
    go_wp2_with (go_at_call 95; refine (goodNum_any _ _ _ h9).mono ?_; rintro e w' ⟨rfl, hb⟩)
    all_goals go_ret
    all_goals refine ⟨ret_bool ?_, ?_⟩
    all_goals first
      | exact bTr (bAl (Below.refl _ _) _) ‹_›
      | exact bAl (Below.refl _ _) _
      | simp [*]

set_option maxHeartbeats 1000000 in
theorem iGoodAtom_3 (n : Int) (t ty : ByteArray) (w : World) (ht : t.size ≤ maxLen) :
    Calls Tryz.prog 77 #[.agg #[.int .i64 3, .int .i64 n, .string t, .string ty]] w fun e w' => e = .returned (.bool (goodAtom 3 n t ty)) ∧ Below w.heap.size w w' := by
  rw [goodAtom_3]
  go_enter Tryz.func77, Tryz.ntmps77
  go_wp2_with (go_at_call 96; refine (goodText_any _ ht _).mono ?_; rintro e w' ⟨rfl, hb⟩)
  all_goals go_ret
  all_goals refine ⟨ret_bool ?_, ?_⟩
  all_goals first
    | exact bTr (bAl (Below.refl _ _) _) ‹_›
    | exact bAl (Below.refl _ _) _
    | simp [gText, *]

set_option maxHeartbeats 1000000 in
theorem iGoodAtom_4 (n : Int) (t ty : ByteArray) (w : World) (ht : t.size ≤ maxLen) (hty : ty.size ≤ maxLen) :
    Calls Tryz.prog 77 #[.agg #[.int .i64 4, .int .i64 n, .string t, .string ty]] w fun e w' => e = .returned (.bool (goodAtom 4 n t ty)) ∧ Below w.heap.size w w' := by
  rw [goodAtom_4]
  cases hg : goodName ty
  all_goals
    have HG := hide hg
    clear hg
    go_enter Tryz.func77, Tryz.ntmps77
    go_wp2_with (first | (go_at_call 76; refine (iGoodName_any _ hty _).mono ?_; rintro e w1 ⟨rfl, hb1⟩; have hc2 : w1.cell? ⟨w.heap.size, 2, none⟩ = some (.string t) := cell_keep hb1 2; rw [unhide HG]) | (go_at_call 96; refine (goodText_any _ ht _).mono ?_; rintro e w2 ⟨rfl, hb2⟩))
    all_goals go_ret
    all_goals refine ⟨ret_bool ?_, ?_⟩
    all_goals first
      | exact bTr (bTr (bAl (Below.refl _ _) _) ‹Below (w.alloc _).heap.size _ w1›) ‹_›
      | exact bTr (bAl (Below.refl _ _) _) ‹_›
      | exact bAl (Below.refl _ _) _
      | simp [gText, *]

theorem iGoodAtom_else (k n : Int) (t ty : ByteArray) (w : World) (h1 : ¬ k = 1) (h2 : ¬ k = 2) (h3 : ¬ k = 3) (h4 : ¬ k = 4) (h5 : ¬ k = 5) (h6 : ¬ k = 6) (h7 : ¬ k = 7) :
    Calls Tryz.prog 77 #[.agg #[.int .i64 k, .int .i64 n, .string t, .string ty]] w fun e w' => e = .returned (.bool (goodAtom k n t ty)) ∧ Below w.heap.size w w' := by
  rw [goodAtom_else h1 h2 h3 h4 h5 h6 h7]
  have t1 : (k == 1) = false := by simpa using h1
  have t2 : (k == 2) = false := by simpa using h2
  have t3 : (k == 3) = false := by simpa using h3
  have t4 : (k == 4) = false := by simpa using h4
  have t5 : (k == 5) = false := by simpa using h5
  have t6 : (k == 6) = false := by simpa using h6
  have t7 : (k == 7) = false := by simpa using h7
  clear h1 h2 h3 h4 h5 h6 h7
  go_enter Tryz.func77, Tryz.ntmps77
  go_wp2
  go_ret
  exact ⟨rfl, bAl (Below.refl _ _) _⟩
end Go.Proofs.YtdflnjjomljgmaaGreatDoor
