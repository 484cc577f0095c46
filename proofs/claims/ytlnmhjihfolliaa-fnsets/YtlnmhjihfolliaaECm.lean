/- impl.GoodAtom, impl.CompareAtoms with worlds that only grew. -/
import Derived.Test.YtlnmhjihfolliaaWCmpA
import Derived.Test.YtlnmhjihfolliaaGGro
import Derived.Deep.RegionHeld3
import Derived.Deep.DeepCutAuto
namespace Go.Proofs.Ytlnmhjihfolliaa.E
open Go.RowKit Go.Proofs.Ytlnmhjihfolliaa.V

/-- What Below says, and draws never fall. -/
structure Below (B : Nat) (w w' : World) : Prop where
  b : Go.RowKit.Below B w w'
  d : w.drawn ≤ w'.drawn
theorem Below.refl (B : Nat) (w : World) : Below B w w := ⟨Go.RowKit.Below.refl B w, Nat.le_refl _⟩
theorem Below.trans {B : Nat} {a b c : World} (h : Below B a b) (k : Below B b c) : Below B a c := ⟨h.b.trans k.b, Nat.le_trans h.d k.d⟩
theorem Below.mono {B B' : Nat} {w w' : World} (h : Below B w w') (hB : B' ≤ B) : Below B' w w' := ⟨h.b.mono hB, h.d⟩
theorem Below.drew {B : Nat} {a w : World} (h : Below B a w) : Below B a w.drew := ⟨h.b.drew, Nat.le_succ_of_le h.d⟩
theorem Below.alloc {B : Nat} {a w : World} (h : Below B a w) (hB : B ≤ w.heap.size) (o : Obj) : Below B a (w.alloc o) := ⟨h.b.alloc hB o, h.d⟩
theorem Below.size {B : Nat} {w w' : World} (h : Below B w w') : w.heap.size ≤ w'.heap.size := h.b.size
theorem Below.cell {B : Nat} {w w' : World} (h : Below B w w') {p : Addr} (hp : p.block < B) : w'.cell? p = w.cell? p := h.b.cell hp
theorem below_drewN {B : Nat} {a w : World} (h : Below B a w) (n : Nat) : Below B a (w.drewN n) := ⟨Go.below_drewN h.b n, Nat.le_trans h.d (Nat.le_add_right _ _)⟩
theorem bAl {w w' : World} (h : Below w.heap.size w w') (o : Obj) : Below w.heap.size w (w'.alloc o) := h.alloc h.size o
theorem bTr {w a b : World} (h : Below w.heap.size w a) (k : Below a.heap.size a b) : Below w.heap.size w b := h.trans (k.mono h.size)
theorem Below.gr {w w' : World} (h : Below w.heap.size w w') : Gr w w' := by
  obtain ⟨⟨h1, h2, h3, h4, h5⟩, hd⟩ := h
  refine ⟨w'.drawn - w.drawn, w'.heap.extract w.heap.size w'.heap.size, ?_⟩
  cases w with
  | mk heap tape drawn os output =>
    cases w' with
    | mk heap' tape' drawn' os' output' =>
      simp only at h1 h2 h3 h4 h5 hd
      subst h1 h2 h3
      have e1 : drawn + (drawn' - drawn) = drawn' := by omega
      have e2 : heap ++ heap'.extract heap.size heap'.size = heap' := by
        apply Array.ext_getElem?
        intro i
        by_cases hi : i < heap.size
        · rw [Array.getElem?_append_left hi]; exact (h5 i hi).symm
        · rw [Array.getElem?_append_right (by omega), Array.getElem?_extract]
          by_cases h6 : i < heap'.size
          · rw [if_pos (by omega)]; congr 1; omega
          · rw [if_neg (by omega), Array.getElem?_eq_none (by omega)]
      simp only [World.drewN, Go.Sort.grow, e1, e2]
theorem cellB {W w' : World} {p : Addr} {v : Value} (hb : Below W.heap.size W w') (hz : p.block < W.heap.size) (hc : W.cell? p = some v) : w'.cell? p = some v := by
  rw [hb.cell hz]; exact hc
theorem conv_bytes (s : ByteArray) (w : World) : ∃ cap w1, (convert 9 22 (.string s)).run Try.prog w = .ok (.slice (some ⟨w.heap.size, 0, none⟩) s.size cap) w1 ∧ Below w.heap.size w w1 ∧
    ∀ j (h : j < s.size), w1.cell? ⟨w.heap.size, j, none⟩ = some (.int .u8 (s[j].toNat : Int)) := by
  refine ⟨_, _, run_bytes_of_string (P := Try.prog) w 9 22 5 s Try.underlying9 Try.underlying22 Try.underlying5, ((Below.refl _ _).drew).alloc (Nat.le_refl _) _, ?_⟩
  intro j h
  have h' : w.drew.heap.size = w.heap.size := rfl
  rw [← h', World.cell?_alloc_mark]
  unfold bytesRow
  rw [Array.getElem?_append_left (by simpa using h)]
  have h2 : j < s.data.size := h
  simp only [Array.getElem?_map, Array.getElem?_eq_getElem h2, Option.map_some]
  rfl
set_option maxRecDepth 8000 in
set_option maxHeartbeats 400000 in
theorem iGoodName_any (s : ByteArray) (hs : s.size ≤ maxLen) (w : World) :
    Calls Try.prog 44 #[.string s] w fun e w' => e = .returned (.bool (goodName s)) ∧ Below w.heap.size w w' := by
  unfold maxLen at hs
  by_cases h1 : s.size < 1
  · have hg := hide (goodName_size (s := s) (.inl h1))
    obtain rfl : s = ByteArray.empty := ByteArray.ext (Array.eq_empty_of_size_eq_zero (by show s.size = 0; omega))
    go_enter Try.func44, Try.ntmps44
    go_wp2
    go_ret
    exact ⟨ret_bool (unhide hg).symm, Below.refl _ _⟩
  have he := isEmpty_of h1
  by_cases h2 : 30 < s.size
  · have hg := hide (goodName_size (s := s) (.inr h2))
    go_enter Try.func44, Try.ntmps44
    go_wp2
    go_ret
    exact ⟨ret_bool (unhide hg).symm, Below.refl _ _⟩
  have hg0 := goodName_of (s := s) (by omega) (by omega)
  have d2 : decide (30 < (s.size : Int)) = false := by simp; omega
  cases hd : namB (s[0].toNat : Int)
  · have hg := hide hg0
    have H := hide hd
    clear hd hg0
    go_enter Try.func44, Try.ntmps44
    go_wp2_with (go_at_call 59; refine (startsName_any _ _).mono ?_; rintro e w' ⟨rfl, rfl⟩; rw [unhide H])
    go_ret
    refine ⟨ret_bool ?_, Below.refl _ _⟩
    rw [unhide hg]
    cases hdd : digB (s[0].toNat : Int)
    · rw [all_false_of okcB s 0 (by omega) (by unfold okcB; rw [unhide H, hdd]; rfl)]; rfl
    · rfl
  · have hg := hide hg0
    have H := hide hd
    clear hd hg0
    obtain ⟨cap, w1, hrun, hbel, hcell⟩ := conv_bytes s w
    go_enter Try.func44, Try.ntmps44
    go_wp2_with (go_at_call 59; refine (startsName_any _ _).mono ?_; rintro e w' ⟨rfl, rfl⟩; rw [unhide H])
    go_loop [21] (fun i => ∃ k : Nat, k ≤ s.size ∧ i = .int .i64 k ∧ Hid ((s.data.toList.take k).all okcB = true)) (fun i => s.size - (intOf i).toNat)
    case atStart => exact ⟨0, Nat.zero_le _, rfl, hide (by simp)⟩
    case round =>
      obtain ⟨k, hk, rfl, hall⟩ := hrel
      by_cases hlt : k < s.size
      · have hck := hcell k hlt
        have hok : okcB s[k] = (namB (s[k].toNat : Int) || digB (s[k].toNat : Int)) := rfl
        clear hcell hrun
        cases hl : namB (s[k].toNat : Int) <;> cases hdd : digB (s[k].toNat : Int)
        all_goals
          rw [hl, hdd] at hok
          have HL := hide hl
          have HD := hide hdd
          have HK := hide hok
          clear hl hdd hok
          go_wp2_with (first | (go_at_call 59; refine (startsName_any _ _).mono ?_; rintro e w' ⟨rfl, rfl⟩; rw [unhide HL]) | (go_at_call 60; refine (isDigit_any _ _).mono ?_; rintro e w' ⟨rfl, rfl⟩; rw [unhide HD]))
          first
            | exact ⟨⟨k + 1, by omega, by go_num, hide (by rw [all_take_succ _ _ _ hlt, unhide hall, unhide HK]; rfl)⟩, by simp [intOf]; omega⟩
            | (go_ret; exact ⟨ret_bool (by rw [unhide hg, all_false_of _ s k hlt (unhide HK)]; simp), hbel⟩)
      · go_wp2
        go_ret
        have e : k = s.size := by omega
        subst e
        refine ⟨ret_bool ?_, hbel⟩
        have hnd : digB (s[0].toNat : Int) = false := by
          have := unhide H
          simp only [namB, digB, decide_eq_true_eq, decide_eq_false_iff_not] at this ⊢; omega
        rw [unhide hg, hnd, ← take_whole s, unhide hall]; rfl
set_option maxRecDepth 8000 in
theorem goodText_any (s : ByteArray) (hs : s.size ≤ maxLen) (w : World) :
    Calls Try.prog 43 #[.string s] w fun e w' => e = .returned (.bool (decide (s.size ≤ 200) && textL s)) ∧ Below w.heap.size w w' := by
  unfold maxLen at hs
  by_cases h2 : 200 < s.size
  · have hg := hide (decide_eq_false (p := s.size ≤ 200) (by omega))
    go_enter Try.func43, Try.ntmps43
    go_wp2
    go_ret
    exact ⟨ret_bool (by rw [unhide hg]; rfl), Below.refl _ _⟩
  have d2 : decide (200 < (s.size : Int)) = false := by simp; omega
  have hg := hide (decide_eq_true (p := s.size ≤ 200) (by omega))
  obtain ⟨cap, w1, hrun, hbel, hcell⟩ := conv_bytes s w
  go_enter Try.func43, Try.ntmps43
  go_wp2
  go_loop [11] (fun i => ∃ k : Nat, k ≤ s.size ∧ i = .int .i64 k ∧ Hid ((s.data.toList.take k).all (fun b => priB b.toNat) = true)) (fun i => s.size - (intOf i).toNat)
  case atStart => exact ⟨0, Nat.zero_le _, rfl, hide (by simp)⟩
  case round =>
    obtain ⟨k, hk, rfl, hall⟩ := hrel
    by_cases hlt : k < s.size
    · have hck := hcell k hlt
      clear hcell hrun
      cases hl : priB (s[k].toNat : Int)
      all_goals
        have HL := hide hl
        clear hl
        go_wp2_with (go_at_call 58; refine (isPrinted_any _ _).mono ?_; rintro e w' ⟨rfl, rfl⟩; rw [unhide HL])
        first
          | exact ⟨⟨k + 1, by omega, by go_num, hide (by rw [all_take_succ _ _ _ hlt, unhide hall, unhide HL]; rfl)⟩, by simp [intOf]; omega⟩
          | (go_ret; exact ⟨ret_bool (by unfold textL; rw [all_false_of _ s k hlt (unhide HL)]; simp), hbel⟩)
    · go_wp2
      go_ret
      have e : k = s.size := by omega
      subst e
      exact ⟨ret_bool (by unfold textL; rw [unhide hg, ← take_whole s, unhide hall]; rfl), hbel⟩
set_option maxHeartbeats 400000 in
theorem goodBlock_any (n : Int) (w : World) (h9 : n ≤ 9223372036854775807) :
    Calls Try.prog 57 #[.int .i64 n] w fun e w' => e = .returned (.bool (blockB n)) ∧ Below w.heap.size w w' := by
  by_cases h0 : n < 0
  · have hb : blockB n = false := by unfold blockB; rw [decide_eq_false (p := 0 ≤ n) (by omega)]; rfl
    have H := hide hb
    clear hb
    go_enter Try.func57, Try.ntmps57
    go_wp2
    go_ret
    exact ⟨ret_bool (unhide H).symm, Below.refl _ _⟩
  have hn : (n < 0) = False := by simp; omega
  have hc := hide (fun w => blockOf_any n w (by omega) h9)
  by_cases h1 : n % 64 ≤ 32
  · by_cases h2 : n / 64 < 4294967296
    · have d1 : decide (n % 64 ≤ 32) = true := by simpa using h1
      have d2 : decide (n / 64 < 4294967296) = true := by simpa using h2
      have e1 : (n / 64).tmod (pw (32 - n % 64).toNat) = (n / 64) % pw (32 - n % 64).toNat := Int.tmod_eq_emod_of_nonneg (by omega)
      have hp := pw_pos (32 - n % 64).toNat
      have hs := hide (fun w => size_any (n / 64) (n % 64) w (by omega) (by omega))
      have hb : blockB n = ((n / 64) % pw (32 - n % 64).toNat == 0) := by unfold blockB; rw [d1, d2, decide_eq_true (p := 0 ≤ n) (by omega)]; simp
      have H := hide hb
      clear hb
      go_enter Try.func57, Try.ntmps57
      go_wp2_with (go_at_call 66; refine (unhide hc _).mono ?_; rintro e w' ⟨rfl, rfl⟩)
      go_region_with (go_at_call 67; refine (unhide hs _).mono ?_; rintro e w' ⟨rfl, rfl⟩)
      all_goals
        go_wp2
        go_ret
        refine ⟨ret_bool ?_, ?_⟩
        · rw [unhide H]
        · (repeat (first | exact Below.refl _ _ | refine below_drewN ?_ _ | refine Below.drew ?_ | refine bAl ?_ _))
    · have d1 : decide (n % 64 ≤ 32) = true := by simpa using h1
      have d2 : decide (n / 64 < 4294967296) = false := by simpa using h2
      have hb : blockB n = false := by unfold blockB; rw [d2]; simp
      have H := hide hb
      clear hb
      go_enter Try.func57, Try.ntmps57
      go_wp2_with (go_at_call 66; refine (unhide hc _).mono ?_; rintro e w' ⟨rfl, rfl⟩)
      go_quiet (fail)
      go_wp2
      go_ret
      exact ⟨ret_bool (unhide H).symm, below_drewN (((Below.refl _ _).alloc (Nat.le_refl _) _).alloc (by simp) _) _⟩
  · have d1 : decide (n % 64 ≤ 32) = false := by simpa using h1
    have hb : blockB n = false := by unfold blockB; rw [d1]; simp
    have H := hide hb
    clear hb
    go_enter Try.func57, Try.ntmps57
    go_wp2_with (go_at_call 66; refine (unhide hc _).mono ?_; rintro e w' ⟨rfl, rfl⟩)
    go_quiet (fail)
    go_wp2
    go_ret
    exact ⟨ret_bool (unhide H).symm, below_drewN (((Below.refl _ _).alloc (Nat.le_refl _) _).alloc (by simp) _) _⟩
theorem goodNum_any (k n : Int) (w : World) (h9 : n ≤ 9223372036854775807) :
    Calls Try.prog 42 #[.int .i64 k, .int .i64 n] w fun e w' => e = .returned (.bool (numB k n)) ∧ Below w.heap.size w w' := by
  unfold numB
  by_cases h1 : k = 1
  · subst h1
    rw [if_pos rfl]
    go_enter Try.func42, Try.ntmps42
    go_wp2
    all_goals go_ret
    all_goals exact ⟨ret_bool (by simp [*]), Below.refl _ _⟩
  rw [if_neg h1]
  have t1 : (k == 1) = false := by simpa using h1
  by_cases h2 : k = 6
  · subst h2
    rw [if_pos rfl]
    go_enter Try.func42, Try.ntmps42
    go_wp2_with (go_at_call 57; refine (goodBlock_any _ _ h9).mono ?_; rintro e w' ⟨rfl, hb⟩)
    go_ret
    exact ⟨rfl, hb⟩
  rw [if_neg h2]
  have t2 : (k == 6) = false := by simpa using h2
  by_cases h3 : k = 7
  · subst h3
    rw [if_pos rfl]
    go_enter Try.func42, Try.ntmps42
    go_wp2
    all_goals go_ret
    all_goals refine ⟨ret_bool ?_, Below.refl _ _⟩
    all_goals (rw [Bool.eq_iff_iff]; simp; try omega)
  rw [if_neg h3]
  have t3 : (k == 7) = false := by simpa using h3
  clear h1 h2 h3
  go_enter Try.func42, Try.ntmps42
  go_wp2
  go_ret
  exact ⟨rfl, Below.refl _ _⟩
theorem cell_keep {w w1 : World} {C : Array Value} {t : TypeId} (hb : Below (w.alloc (.cells C t)).heap.size (w.alloc (.cells C t)) w1) (j : Nat) : w1.cell? ⟨w.heap.size, j, none⟩ = C[j]? := by
  rw [hb.cell (by simp)]; exact cell_al w C t j
set_option maxHeartbeats 1000000 in
theorem iGoodAtom_plain (k n : Int) (hk : k = 1 ∨ k = 2 ∨ k = 5 ∨ k = 6 ∨ k = 7) (t ty : ByteArray) (w : World) (h9 : n ≤ 9223372036854775807) :
    Calls Try.prog 31 #[.agg #[.int .i64 k, .int .i64 n, .string t, .string ty]] w fun e w' => e = .returned (.bool (goodAtom k n t ty)) ∧ Below w.heap.size w w' := by
  rw [goodAtom_plain hk]
  rcases hk with rfl | rfl | rfl | rfl | rfl
  all_goals
    go_enter Try.func31, Try.ntmps31
    go_wp2_with (go_at_call 42; refine (goodNum_any _ _ _ h9).mono ?_; rintro e w' ⟨rfl, hb⟩)
    all_goals go_ret
    all_goals refine ⟨ret_bool ?_, ?_⟩
    all_goals first
      | exact bTr (bAl (Below.refl _ _) _) ‹_›
      | exact bAl (Below.refl _ _) _
      | simp [*]
set_option maxHeartbeats 1000000 in
theorem iGoodAtom_3 (n : Int) (t ty : ByteArray) (w : World) (ht : t.size ≤ maxLen) :
    Calls Try.prog 31 #[.agg #[.int .i64 3, .int .i64 n, .string t, .string ty]] w fun e w' => e = .returned (.bool (goodAtom 3 n t ty)) ∧ Below w.heap.size w w' := by
  rw [goodAtom_3]
  go_enter Try.func31, Try.ntmps31
  go_wp2_with (go_at_call 43; refine (goodText_any _ ht _).mono ?_; rintro e w' ⟨rfl, hb⟩)
  all_goals go_ret
  all_goals refine ⟨ret_bool ?_, ?_⟩
  all_goals first
    | exact bTr (bAl (Below.refl _ _) _) ‹_›
    | exact bAl (Below.refl _ _) _
    | simp [gText, *]
set_option maxHeartbeats 1000000 in
theorem iGoodAtom_4 (n : Int) (t ty : ByteArray) (w : World) (ht : t.size ≤ maxLen) (hty : ty.size ≤ maxLen) :
    Calls Try.prog 31 #[.agg #[.int .i64 4, .int .i64 n, .string t, .string ty]] w fun e w' => e = .returned (.bool (goodAtom 4 n t ty)) ∧ Below w.heap.size w w' := by
  rw [goodAtom_4]
  cases hg : goodName ty
  all_goals
    have HG := hide hg
    clear hg
    go_enter Try.func31, Try.ntmps31
    go_wp2_with (first | (go_at_call 44; refine (iGoodName_any _ hty _).mono ?_; rintro e w1 ⟨rfl, hb1⟩; have hc2 : w1.cell? ⟨w.heap.size, 2, none⟩ = some (.string t) := cell_keep hb1 2; rw [unhide HG]) | (go_at_call 43; refine (goodText_any _ ht _).mono ?_; rintro e w2 ⟨rfl, hb2⟩))
    all_goals go_ret
    all_goals refine ⟨ret_bool ?_, ?_⟩
    all_goals first
      | exact bTr (bTr (bAl (Below.refl _ _) _) ‹Below (w.alloc _).heap.size _ w1›) ‹_›
      | exact bTr (bAl (Below.refl _ _) _) ‹_›
      | exact bAl (Below.refl _ _) _
      | simp [gText, *]
theorem iGoodAtom_else (k n : Int) (t ty : ByteArray) (w : World) (h1 : ¬ k = 1) (h2 : ¬ k = 2) (h3 : ¬ k = 3) (h4 : ¬ k = 4) (h5 : ¬ k = 5) (h6 : ¬ k = 6) (h7 : ¬ k = 7) :
    Calls Try.prog 31 #[.agg #[.int .i64 k, .int .i64 n, .string t, .string ty]] w fun e w' => e = .returned (.bool (goodAtom k n t ty)) ∧ Below w.heap.size w w' := by
  rw [goodAtom_else h1 h2 h3 h4 h5 h6 h7]
  have t1 : (k == 1) = false := by simpa using h1
  have t2 : (k == 2) = false := by simpa using h2
  have t3 : (k == 3) = false := by simpa using h3
  have t4 : (k == 4) = false := by simpa using h4
  have t5 : (k == 5) = false := by simpa using h5
  have t6 : (k == 6) = false := by simpa using h6
  have t7 : (k == 7) = false := by simpa using h7
  clear h1 h2 h3 h4 h5 h6 h7
  go_enter Try.func31, Try.ntmps31
  go_wp2
  go_ret
  exact ⟨rfl, bAl (Below.refl _ _) _⟩
theorem iGoodAtom_any (k n : Int) (t ty : ByteArray) (w : World) (h9 : n ≤ 9223372036854775807) (ht : t.size ≤ maxLen) (hty : ty.size ≤ maxLen) :
    Calls Try.prog 31 #[.agg #[.int .i64 k, .int .i64 n, .string t, .string ty]] w fun e w' => e = .returned (.bool (goodAtom k n t ty)) ∧ Below w.heap.size w w' := by
  by_cases h3 : k = 3
  · subst h3; exact iGoodAtom_3 n t ty w ht
  by_cases h4 : k = 4
  · subst h4; exact iGoodAtom_4 n t ty w ht hty
  by_cases h : k = 1 ∨ k = 2 ∨ k = 5 ∨ k = 6 ∨ k = 7
  · exact iGoodAtom_plain k n h t ty w h9
  · exact iGoodAtom_else k n t ty w (by omega) (by omega) h3 h4 (by omega) (by omega) (by omega)
set_option maxHeartbeats 1000000 in
theorem iCompare_any (x n : Int) (t y : ByteArray) (x' n' : Int) (t' y' : ByteArray) (w : World) (h9 : n ≤ 9223372036854775807) (ht : t.size ≤ maxLen) (hy : y.size ≤ maxLen)
    (h9' : n' ≤ 9223372036854775807) (ht' : t'.size ≤ maxLen) (hy' : y'.size ≤ maxLen) :
    Calls Try.prog 16 #[.agg #[.int .i64 x, .int .i64 n, .string t, .string y], .agg #[.int .i64 x', .int .i64 n', .string t', .string y']] w
      fun e w' => e = .returned (.int .i64 (cmpG x n t y x' n' t' y')) ∧ Below w.heap.size w w' := by
  have hA := hide (fun w => iGoodAtom_any x n t y w h9 ht hy)
  have hB := hide (fun w => iGoodAtom_any x' n' t' y' w h9' ht' hy')
  unfold cmpG
  generalize goodAtom x n t y = ga at hA ⊢
  generalize goodAtom x' n' t' y' = gb at hB ⊢
  clear h9 ht hy h9' ht' hy'
  cases ga
  · rw [if_neg (by simp)]
    go_enter Try.func16, Try.ntmps16
    go_wp2_with fail
    refine (unhide hA _).mono ?_
    rintro e w1 ⟨rfl, hb1⟩
    go_wp2_with fail
    go_ret
    exact ⟨rfl, bTr (bAl (bAl (Below.refl _ _) _) _) hb1⟩
  cases gb
  · rw [if_neg (by simp)]
    go_enter Try.func16, Try.ntmps16
    go_wp2_with fail
    refine (unhide hA _).mono ?_
    rintro e w1 ⟨rfl, hb1⟩
    obtain ⟨d0, d1, d2, d3, _⟩ := (AtomAt.new1 w _ _ _ _ _ _).keep hb1.b
    go_wp2_with fail
    refine (unhide hB _).mono ?_
    rintro e w2 ⟨rfl, hb2⟩
    go_wp2_with fail
    go_ret
    exact ⟨rfl, bTr (bTr (bAl (bAl (Below.refl _ _) _) _) hb1) hb2⟩
  rw [if_pos (by simp)]
  by_cases heq : x = x' ∧ n = n' ∧ t.toList = t'.toList ∧ y.toList = y'.toList
  · obtain ⟨rfl, rfl, ht, hy⟩ := heq
    rw [ByteArray.toList_eq, ByteArray.toList_eq] at ht hy
    obtain rfl := Go.WideShapes.bytes_inj ht
    obtain rfl := Go.WideShapes.bytes_inj hy
    clear ht hy
    have hz : cmpA x n t y x n t y = 0 := by
      unfold cmpA
      rw [cmpN_self, cmpN_self, cmpT_self, cmpT_self]; rfl
    rw [hz]
    clear hz
    go_enter Try.func16, Try.ntmps16
    go_wp2_with fail
    refine (unhide hA _).mono ?_
    rintro e w1 ⟨rfl, hb1⟩
    have qa := ((AtomAt.new w _ _ _ _ _).more _).keep hb1.b
    have qb := (AtomAt.new1 w _ _ _ _ _ _).keep hb1.b
    obtain ⟨d0, d1, d2, d3, _⟩ := hide qb
    go_wp2_with fail
    refine (unhide hB _).mono ?_
    rintro e w2 ⟨rfl, hb2⟩
    clear d0 d1 d2 d3
    obtain ⟨c0, c1, c2, c3, _⟩ := qa.keep hb2.b
    obtain ⟨d0, d1, d2, d3, _⟩ := qb.keep hb2.b
    have bw2 := bTr (bTr (bAl (bAl (Below.refl _ _) _) _) hb1) hb2
    clear qa qb hb1 hb2 hA hB
    go_wp2_with fail
    go_ret
    exact ⟨rfl, bw2⟩
  have HE := hide heq
  clear heq
  have h1 := hide (fun w => compareInt_any x x' w)
  have h2 := hide (fun w => compareInt_any n n' w)
  have h3 := hide (fun w => compareStr_any y y' w)
  have h4 := hide (fun w => compareStr_any t t' w)
  unfold cmpA
  generalize cmpN x x' = v0 at h1 ⊢
  generalize cmpN n n' = v1 at h2 ⊢
  generalize cmpT y.data.toList y'.data.toList = v2 at h3 ⊢
  generalize cmpT t.data.toList t'.data.toList = v3 at h4 ⊢
  go_enter Try.func16, Try.ntmps16
  go_wp2_with fail
  refine (unhide hA _).mono ?_
  rintro e w1 ⟨rfl, hb1⟩
  have qa := ((AtomAt.new w _ _ _ _ _).more _).keep hb1.b
  have qb := (AtomAt.new1 w _ _ _ _ _ _).keep hb1.b
  obtain ⟨d0, d1, d2, d3, _⟩ := hide qb
  go_wp2_with fail
  refine (unhide hB _).mono ?_
  rintro e w2 ⟨rfl, hb2⟩
  clear d0 d1 d2 d3
  obtain ⟨c0, c1, c2, c3, _⟩ := qa.keep hb2.b
  obtain ⟨d0, d1, d2, d3, _⟩ := qb.keep hb2.b
  have bw2 := bTr (bTr (bAl (bAl (Below.refl _ _) _) _) hb1) hb2
  clear qa qb hb1 hb2 hA hB
  go_upto_region 3 with fail
  go_cut [0, 1, 15] (fun s0 s1 s w' => s0 = .agg #[.int .i64 x, .int .i64 n, .string t, .string y] ∧ s1 = .agg #[.int .i64 x', .int .i64 n', .string t', .string y'] ∧ s = .bool false ∧ w' = w2)
  case first =>
    clear h1 h2 h3 h4
    go_wp2_with fail
    · exact absurd ⟨‹_›, ‹_›, ‹_›, ‹_›⟩ (unhide HE)
    all_goals go_meet
    all_goals (clear HE; refine ⟨by simp [*], rfl, rfl, rfl⟩)
  case rest =>
    obtain ⟨rfl, rfl, rfl, rfl⟩ := hcut
    clear HE
    go_wp2_with fail
    have zA : w.heap.size < wc.heap.size := World.block_lt_of_cell? wc _ c1
    have zB : w.heap.size + 1 < wc.heap.size := World.block_lt_of_cell? wc _ d1
    go_region_held3 (fun w' => w'.cell? ⟨w.heap.size, 0, none⟩ = some (.int .i64 x) ∧ w'.cell? ⟨w.heap.size, 1, none⟩ = some (.int .i64 n) ∧ w'.cell? ⟨w.heap.size, 2, none⟩ = some (.string t) ∧ w'.cell? ⟨w.heap.size, 3, none⟩ = some (.string y)
        ∧ w'.cell? ⟨w.heap.size + 1, 0, none⟩ = some (.int .i64 x') ∧ w'.cell? ⟨w.heap.size + 1, 1, none⟩ = some (.int .i64 n') ∧ w'.cell? ⟨w.heap.size + 1, 2, none⟩ = some (.string t') ∧ w'.cell? ⟨w.heap.size + 1, 3, none⟩ = some (.string y'))
      ((refine ⟨cellB (W := wc) ?_ zA c0, cellB (W := wc) ?_ zA c1, cellB (W := wc) ?_ zA c2, cellB (W := wc) ?_ zA c3, cellB (W := wc) ?_ zB d0, cellB (W := wc) ?_ zB d1, cellB (W := wc) ?_ zB d2, cellB (W := wc) ?_ zB d3⟩ <;> (repeat (first | exact Below.refl _ _ | refine Below.drew ?_ | refine bAl ?_ _))))
      (first
        | (go_at_call_of 35 x; refine (unhide h1 _).mono ?_; rintro e w' ⟨rfl, rfl⟩)
        | (go_at_call_of 35 n; refine (unhide h2 _).mono ?_; rintro e w' ⟨rfl, rfl⟩)
        | (go_at_call_of 36 y; refine (unhide h3 _).mono ?_; rintro e w' ⟨rfl, rfl⟩)
        | (go_at_call_of 36 t; refine (unhide h4 _).mono ?_; rintro e w' ⟨rfl, rfl⟩)
        | (go_at_call 34; refine (cmpOr_any wc.heap.size v0 v1 v2 v3 _ ?_ ?_ ?_ ?_).mono ?_; (go_simp); (go_simp); (go_simp); (go_simp); rintro e w' ⟨rfl, rfl⟩))
    go_wp2_with fail
    go_ret
    refine ⟨rfl, bTr bw2 ?_⟩
    (repeat (first | exact Below.refl _ _ | refine Below.drew ?_ | refine bAl ?_ _))
end Go.Proofs.Ytlnmhjihfolliaa.E
