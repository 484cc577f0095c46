/- YNoe, TId, one behind the other. -/
import Derived.Test.YtcajlndbaipcaaaJ10
import Derived.Test.YtcajlndbaipcaaaJ3
/- impl.goodExprNode, the rest. -/
namespace Go.Proofs.Ytcajlndbaipcaaa.V
open Go.RowKit Go.Maps

set_option maxRecDepth 20000 in
set_option maxHeartbeats 1000000 in
theorem node20_any (x : ExprT) (w : World) (hx : x.Ok) (hk : x.f0 = 20) :
    Calls Try.prog 65 #[eAgg x] w fun e w' => RetB e (zEx x ∧ x.f6 = 1 ∧ x.f1.size ≤ 200 ∧ textL x.f1 = true ∧ (toks x.f1.data.toList).isSome = true) ∧ Below w.heap.size w w' := by
  obtain ⟨f0, f1, f2, f3, f4, f5, f6⟩ := x
  simp only [zEx] at *
  have q := hide (goodText_any f1 hx.o1)
  have q2 := hide (isPattern_any f1)
  have ho := hx.o1
  unfold maxLen at ho
  clear hx
  subst hk
  have R0 := hide (fun g2 g3 g4 g5 g6 => RowIs.new w #[.int .i64 20, .string f1, .int .i64 g2, .int .i64 g3, .string g4, .string g5, .int .i64 g6] 56)
  generalize textL f1 = X at *
  generalize (toks f1.data.toList).isSome = Y at *
  by_cases hd : f1.size ≤ 200
  · simp only [hd, decide_true, Bool.true_and, true_and] at q ⊢
    replace q2 := hide (unhide q2 hd)
    clear hd ho
    cases X
    all_goals go_enter Try.func65, Try.ntmps65
    all_goals go_wp2_with (first | (refine (unhide q _).mono ?_; rintro e w1 ⟨rfl, hb1⟩; have c1 := ((unhide R0 _ _ _ _ _).keep hb1).at (o := 1) (v := .string f1) rfl; have z1 := ((unhide R0 _ _ _ _ _).keep hb1).lt; replace hb1 := hide hb1) | (refine (unhide q2 _).mono ?_; rintro e w2 ⟨⟨b2, rfl, h2⟩, hb2⟩; replace h2 := hide h2; replace hb2 := hide hb2))
    all_goals go_ret
    all_goals (first | refine ⟨retB ?_, bAl (Below.refl _ _) _⟩ | refine ⟨retB ?_, bTr (bAl (Below.refl _ _) _) (unhide hb1)⟩ | refine ⟨retB ?_, bTr (bTr (bAl (Below.refl _ _) _) (unhide hb1)) (unhide hb2)⟩)
    all_goals simp only [empE_iff]
    all_goals (try replace h2 := unhide h2)
    all_goals simp_all
  · simp only [hd, decide_false, Bool.false_and, false_and, and_false] at q ⊢
    clear q2 hd ho
    go_enter Try.func65, Try.ntmps65
    go_wp2_with (refine (unhide q _).mono ?_; rintro e w1 ⟨rfl, hb1⟩; replace hb1 := hide hb1)
    all_goals go_ret
    all_goals (first | exact ⟨retB (by simp), bAl (Below.refl _ _) _⟩ | exact ⟨retB (by simp), bTr (bAl (Below.refl _ _) _) (unhide hb1)⟩)

set_option maxRecDepth 20000 in
set_option maxHeartbeats 1000000 in
theorem node8_any (x : ExprT) (w : World) (h1 : ¬ x.f0 = 1) (h2 : ¬ x.f0 = 2) (h3 : ¬ x.f0 = 3) (h4 : ¬ x.f0 = 4) (h5 : ¬ x.f0 = 5) (h6 : ¬ x.f0 = 6) (h7 : ¬ x.f0 = 7) (h10 : ¬ x.f0 = 10) (h20 : ¬ x.f0 = 20) (h21 : ¬ x.f0 = 21) :
    Calls Try.prog 65 #[eAgg x] w fun e w' => RetB e (8 ≤ x.f0 ∧ x.f0 ≤ 19 ∧ zEx x ∧ x.f1 = empE ∧ x.f6 = 2) ∧ Below w.heap.size w w' := by
  obtain ⟨f0, f1, f2, f3, f4, f5, f6⟩ := x
  simp only [zEx] at *
  have q := hide (isPairExpr_any f0)
  have d : Hid (¬ f0 = 10) := hide h10
  go_enter Try.func65, Try.ntmps65
  go_wp2_with (refine (unhide q _).mono ?_; rintro e w1 ⟨⟨b1, rfl, g1⟩, rfl⟩; replace g1 := hide g1; cases b1)
  all_goals go_ret
  all_goals refine ⟨retB ?_, bAl (Below.refl _ _) _⟩
  all_goals simp only [empE_iff]
  all_goals (try replace g1 := unhide g1)
  all_goals clear h1 h2 h3 h4 h5 h6 h7 h10 h20 h21 q
  all_goals (first | (simp_all; done) | (simp at g1; have d' := unhide d; clear d; simp_all; done) | (simp at g1; have d' := unhide d; clear d; constructor <;> intros <;> simp_all <;> omega) | (simp at g1; have d' := unhide d; clear d; rintro a b; exact absurd (g1 a b) d'))

theorem zEx_or {x : ExprT} (h : ¬ x.f0 = 1) : (x.f0 = 1 ∨ zEx x) ↔ zEx x := ⟨fun g => g.resolve_left h, .inr⟩
theorem goodExprNode_any (x : ExprT) (w : World) (hx : x.Ok) :
    Calls Try.prog 65 #[eAgg x] w fun e w' => RetB e (NodeP x) ∧ Below w.heap.size w w' := by
  have to : ∀ {p : Prop}, (p ↔ NodeP x) → Calls Try.prog 65 #[eAgg x] w (fun e w' => RetB e p ∧ Below w.heap.size w w') → Calls Try.prog 65 #[eAgg x] w fun e w' => RetB e (NodeP x) ∧ Below w.heap.size w w' := by
    intro p hp h
    refine h.mono ?_
    rintro e w' ⟨⟨b, rfl, hb⟩, h2⟩
    exact ⟨⟨b, rfl, hb.trans hp⟩, h2⟩
  unfold NodeP kidP ari txtP at to
  by_cases h1 : x.f0 = 1
  · exact to (by simp [h1]; constructor <;> simp_all) (node1_any x w hx h1)
  by_cases h2 : x.f0 = 2
  · exact to (by simp [h2]; constructor <;> (intros; simp_all)) (node2_any x w h2)
  by_cases h3 : x.f0 = 3
  · exact to (by simp [h3]; constructor <;> (intros; simp_all)) (node3_any x w h3)
  by_cases h4 : x.f0 = 4 ∨ x.f0 = 5 ∨ x.f0 = 21
  · refine to ?_ (node4_any x w hx h4)
    rcases h4 with h | h | h <;> simp [h] <;> constructor <;> (intros; simp_all)
  by_cases h20 : x.f0 = 20
  · exact to (by simp [h20]; constructor <;> (intros; simp_all)) (node20_any x w hx h20)
  by_cases h6 : x.f0 = 6 ∨ x.f0 = 7
  · refine to ?_ (node6_any x w h6)
    rcases h6 with h | h <;> simp [h] <;> constructor <;> (intros; simp_all)
  by_cases h10 : x.f0 = 10
  · exact to (by simp [h10]; constructor <;> (intros; simp_all)) (node10_any x w h10)
  simp only [not_or] at h4 h6
  refine to ?_ (node8_any x w h1 h2 h3 h4.1 h4.2.1 h6.1 h6.2 h10 h20 h4.2.2)
  simp only [h1, h2, h3, h4.1, h4.2.1, h4.2.2, h6.1, h6.2, h10, h20, or_self, if_false, false_or]
  by_cases h8 : 8 ≤ x.f0 ∧ x.f0 ≤ 19
  · simp only [if_pos h8]
    constructor
    · rintro ⟨_, _, a, b, c⟩; exact ⟨by omega, c, a, b⟩
    · rintro ⟨_, c, a, b⟩; exact ⟨h8.1, h8.2, a, b, c⟩
  · simp only [if_neg h8]
    constructor
    · rintro ⟨a, b, _⟩; exact absurd ⟨a, b⟩ h8
    · rintro ⟨a, _⟩; exact absurd rfl a

end Go.Proofs.Ytcajlndbaipcaaa.V
/- Ids: impl.isId, spec.l7Id. -/
namespace Go.Proofs.Ytcajlndbaipcaaa
open Go.RowKit
set_option maxRecDepth 20000

def idcB (c : UInt8) : Bool := namB (c.toNat : Int) || digB (c.toNat : Int) || !((c.toNat : Int) != 45) || !((c.toNat : Int) != 46)
def idB (s : ByteArray) : Bool := decide (1 ≤ s.size ∧ s.size ≤ 40) && s.data.toList.all idcB
theorem nam_let (n : Int) : namB n = (letB n || !(n != 95)) := by
  rw [Bool.eq_iff_iff]
  simp [namB, letB]
theorem idB_size {s : ByteArray} (h : s.size < 1 ∨ 40 < s.size) : idB s = false := by
  unfold idB
  rw [decide_eq_false (by omega)]; rfl
theorem idB_of {s : ByteArray} (h1 : 1 ≤ s.size) (h2 : s.size ≤ 40) : idB s = s.data.toList.all idcB := by
  unfold idB
  rw [decide_eq_true (by omega)]; rfl

set_option maxHeartbeats 1000000 in
theorem isId_any (s : ByteArray) (hs : s.size ≤ maxLen) (w : World) :
    Calls Try.prog 24 #[.string s] w fun e w' => e = .returned (.bool (idB s)) ∧ Below w.heap.size w w' := by
  unfold maxLen at hs
  by_cases h1 : s.size < 1
  · have hg := hide (idB_size (s := s) (.inl h1))
    obtain rfl : s = ByteArray.empty := ByteArray.ext (Array.eq_empty_of_size_eq_zero (by show s.size = 0; omega))
    go_enter Try.func24, Try.ntmps24
    go_wp2
    go_ret
    exact ⟨ret_bool (unhide hg).symm, Below.refl _ _⟩
  have he := isEmpty_of h1
  by_cases h2 : 40 < s.size
  · have hg := hide (idB_size (s := s) (.inr h2))
    go_enter Try.func24, Try.ntmps24
    go_wp2
    go_ret
    exact ⟨ret_bool (unhide hg).symm, Below.refl _ _⟩
  have hg := hide (idB_of (s := s) (by omega) (by omega))
  have d2 : decide (40 < (s.size : Int)) = false := by simp; omega
  obtain ⟨cap, w1, hrun, hbel, hcell⟩ := conv_bytes s w
  go_enter Try.func24, Try.ntmps24
  go_wp2_with fail
  go_loop [15] (fun i => ∃ k : Nat, k ≤ s.size ∧ i = .int .i64 k ∧ Hid ((s.data.toList.take k).all idcB = true)) (fun i => s.size - (intOf i).toNat)
  case atStart => exact ⟨0, Nat.zero_le _, rfl, hide (by simp)⟩
  case round =>
    obtain ⟨k, hk, rfl, hall⟩ := hrel
    by_cases hlt : k < s.size
    · have hck := hcell k hlt
      have hok : idcB s[k] = (namB (s[k].toNat : Int) || digB (s[k].toNat : Int) || !((s[k].toNat : Int) != 45) || !((s[k].toNat : Int) != 46)) := rfl
      clear hcell hrun
      cases hl : namB (s[k].toNat : Int) <;> cases hdd : digB (s[k].toNat : Int) <;> cases h45 : ((s[k].toNat : Int) != 45) <;> cases h46 : ((s[k].toNat : Int) != 46)
      all_goals
        rw [hl, hdd, h45, h46] at hok
        have HL := hide hl
        have HD := hide hdd
        have HK := hide hok
        clear hl hdd hok
        go_wp2_with (first | (go_at_call 44; refine (startsName_any _ _).mono ?_; rintro e w' ⟨rfl, rfl⟩; rw [unhide HL]) | (go_at_call 45; refine (isDigit_any _ _).mono ?_; rintro e w' ⟨rfl, rfl⟩; rw [unhide HD]))
        first
          | exact ⟨⟨k + 1, by omega, by go_num, hide (by rw [all_take_succ _ _ _ hlt, unhide hall, unhide HK]; rfl)⟩, by simp [intOf]; omega⟩
          | (go_ret; exact ⟨ret_bool (by rw [unhide hg, all_false_of _ s k hlt (unhide HK)]), hbel⟩)
    · go_wp2
      go_ret
      have e : k = s.size := by omega
      subst e
      refine ⟨ret_bool ?_, hbel⟩
      rw [unhide hg, ← take_whole s, unhide hall]

set_option maxHeartbeats 1000000 in
theorem l7Id_any (s : ByteArray) (hs : s.size ≤ maxLen) (w : World) :
    Calls Try.prog 16 #[.string s] w fun e w' => e = .returned (.bool (idB s)) ∧ Below w.heap.size w w' := by
  unfold maxLen at hs
  go_enter Try.func16, Try.ntmps16
  go_wp2_with fail
  go_loop [3] (fun i => ∃ k : Nat, k ≤ s.size ∧ i = .int .i64 k ∧ Hid ((s.data.toList.take k).all idcB = true)) (fun i => s.size - (intOf i).toNat)
  case atStart => exact ⟨0, Nat.zero_le _, rfl, hide (by simp)⟩
  case round =>
    obtain ⟨k, hk, rfl, hall⟩ := hrel
    by_cases hlt : k < s.size
    · have hok : idcB s[k] = (letB (s[k].toNat : Int) || !((s[k].toNat : Int) != 95) || digB (s[k].toNat : Int) || !((s[k].toNat : Int) != 45) || !((s[k].toNat : Int) != 46)) := by unfold idcB; rw [nam_let]
      cases hl : letB (s[k].toNat : Int) <;> cases hdd : digB (s[k].toNat : Int) <;> cases h95 : ((s[k].toNat : Int) != 95) <;> cases h45 : ((s[k].toNat : Int) != 45) <;> cases h46 : ((s[k].toNat : Int) != 46)
      all_goals
        rw [hl, hdd, h95, h45, h46] at hok
        have HL := hide hl
        have HD := hide hdd
        have HK := hide hok
        clear hl hdd hok
        go_wp2_with (first | (go_at_call 35; refine (l1Letter_any _ _).mono ?_; rintro e w' ⟨rfl, rfl⟩; rw [unhide HL]) | (go_at_call 36; refine (l1Digit_any _ _).mono ?_; rintro e w' ⟨rfl, rfl⟩; rw [unhide HD]))
        first
          | exact ⟨⟨k + 1, by omega, by go_num, hide (by rw [all_take_succ _ _ _ hlt, unhide hall, unhide HK]; rfl)⟩, by simp [intOf]; omega⟩
          | (go_ret; exact ⟨ret_bool (by unfold idB; rw [all_false_of _ s k hlt (unhide HK), Bool.and_false]), Below.refl _ _⟩)
    · have e : k = s.size := by omega
      subst e
      have ha := hide (show s.data.toList.all idcB = true by rw [← take_whole s]; exact unhide hall)
      by_cases h1 : 1 ≤ s.size
      · by_cases h2 : s.size ≤ 40
        · go_wp2_with fail
          go_ret
          exact ⟨ret_bool (by rw [idB_of h1 h2, unhide ha]; exact decide_eq_true (by omega)), Below.refl _ _⟩
        · go_wp2_with fail
          go_ret
          exact ⟨ret_bool (by rw [idB_size (.inr (by omega))]; exact decide_eq_false (by omega)), Below.refl _ _⟩
      · go_wp2_with fail
        go_ret
        exact ⟨ret_bool (by rw [idB_size (.inl (by omega))]), Below.refl _ _⟩
end Go.Proofs.Ytcajlndbaipcaaa
