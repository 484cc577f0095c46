/- The order of texts: spec.l1CmpNum, l1CmpText, strings.Compare, impl.rising. -/
import Derived.Test.YtenbliiombjldaaQRow
import Derived.Test.YtenbliiombjldaaShelf
import Derived.Laws.Strings
namespace Go.Proofs.Ytenbliiombjldaa
open Go.RowKit

def cmpN (a b : Int) : Int := if a < b then -1 else if b < a then 1 else 0
def cmpT : List UInt8 → List UInt8 → Int
  | [], [] => 0
  | [], _ :: _ => -1
  | _ :: _, [] => 1
  | a :: x, b :: y => if a = b then cmpT x y else cmpN a.toNat b.toNat

theorem cmpN_self (a : Int) : cmpN a a = 0 := by unfold cmpN; rw [if_neg (Int.lt_irrefl a), if_neg (Int.lt_irrefl a)]
theorem cmpN_cases (a b : Int) : cmpN a b = -1 ∨ cmpN a b = 0 ∨ cmpN a b = 1 := by
  unfold cmpN; split
  · exact .inl rfl
  · split
    · exact .inr (.inr rfl)
    · exact .inr (.inl rfl)
theorem cmpN_zero {a b : Int} (h : cmpN a b = 0) : a = b := by
  unfold cmpN at h
  split at h
  · simp at h
  · split at h
    · simp at h
    · omega
theorem cmpT_cases : ∀ a b : List UInt8, cmpT a b = -1 ∨ cmpT a b = 0 ∨ cmpT a b = 1
  | [], [] => by simp [cmpT]
  | [], _ :: _ => by simp [cmpT]
  | _ :: _, [] => by simp [cmpT]
  | a :: x, b :: y => by
    unfold cmpT
    split
    · exact cmpT_cases x y
    · exact cmpN_cases _ _
theorem cmpT_self : ∀ a : List UInt8, cmpT a a = 0
  | [] => rfl
  | a :: x => by unfold cmpT; rw [if_pos rfl]; exact cmpT_self x
theorem u8_eq {a b : UInt8} (h : (a.toNat : Int) = (b.toNat : Int)) : a = b := UInt8.toNat_inj.1 (by omega)
theorem cmpT_zero : ∀ {a b : List UInt8}, cmpT a b = 0 → a = b
  | [], [], _ => rfl
  | [], _ :: _, h => by simp [cmpT] at h
  | _ :: _, [], h => by simp [cmpT] at h
  | a :: x, b :: y, h => by
    unfold cmpT at h
    split at h
    · rename_i e; rw [e, cmpT_zero h]
    · rename_i e; exact absurd (u8_eq (cmpN_zero h)) e

/-- The order by '<' and '=='. -/
theorem cmpT_less : ∀ a b : List UInt8, cmpT a b = if Op.bytesLess a b then -1 else if a == b then 0 else 1
  | [], [] => by simp [cmpT, Op.bytesLess]
  | [], _ :: _ => by simp [cmpT, Op.bytesLess]
  | _ :: _, [] => by simp [cmpT, Op.bytesLess]
  | a :: x, b :: y => by
    unfold cmpT
    by_cases e : a = b
    · subst e
      rw [if_pos rfl, cmpT_less x y]
      simp [Op.bytesLess]
    · rw [if_neg e]
      unfold cmpN
      have hb : (a == b) = false := by simpa using e
      by_cases l : a < b
      · have l' : (a.toNat : Int) < (b.toNat : Int) := by have := UInt8.lt_iff_toNat_lt.1 l; omega
        rw [if_pos l']
        simp [Op.bytesLess, l]
      · have l' : ¬ (a.toNat : Int) < (b.toNat : Int) := by
          intro h; exact l (UInt8.lt_iff_toNat_lt.2 (by omega))
        have l2 : (b.toNat : Int) < (a.toNat : Int) := by
          have : ¬ (a.toNat : Int) = (b.toNat : Int) := fun h => e (u8_eq h)
          omega
        rw [if_neg l', if_pos l2]
        simp [Op.bytesLess, l, hb]

/-- What is the same ahead falls away. -/
theorem cmpT_drop_step (a b : List UInt8) (k : Nat) (ha : k < a.length) (hb : k < b.length) (e : a[k] = b[k]) : cmpT (a.drop k) (b.drop k) = cmpT (a.drop (k + 1)) (b.drop (k + 1)) := by
  rw [List.drop_eq_getElem_cons ha, List.drop_eq_getElem_cons hb]
  show (if a[k] = b[k] then _ else _) = _
  rw [if_pos e]
theorem cmpT_drop_differ (a b : List UInt8) (k : Nat) (ha : k < a.length) (hb : k < b.length) (e : ¬ a[k] = b[k]) : cmpT (a.drop k) (b.drop k) = cmpN a[k].toNat b[k].toNat := by
  rw [List.drop_eq_getElem_cons ha, List.drop_eq_getElem_cons hb]
  show (if a[k] = b[k] then _ else _) = _
  rw [if_neg e]
theorem cmpT_drop_end (a b : List UInt8) (k : Nat) (h : k = a.length ∧ k ≤ b.length ∨ k ≤ a.length ∧ k = b.length) : cmpT (a.drop k) (b.drop k) = cmpN a.length b.length := by
  rcases h with ⟨h1, h2⟩ | ⟨h1, h2⟩
  · rw [List.drop_of_length_le (by omega)]
    by_cases h : k < b.length
    · rw [List.drop_eq_getElem_cons h]; show -1 = cmpN _ _
      unfold cmpN; rw [if_pos (by omega)]
    · rw [List.drop_of_length_le (by omega)]; show 0 = cmpN _ _
      rw [show (a.length : Int) = b.length by omega, cmpN_self]
  · rw [List.drop_of_length_le (l := b) (by omega)]
    by_cases h : k < a.length
    · rw [List.drop_eq_getElem_cons h]; show 1 = cmpN _ _
      unfold cmpN; rw [if_neg (by omega), if_pos (by omega)]
    · rw [List.drop_of_length_le (by omega)]; show 0 = cmpN _ _
      rw [show (a.length : Int) = b.length by omega, cmpN_self]

/-- The order of atoms, good ones. -/
theorem ret_int {k : IntKind} {a b : Int} (h : a = b) : Ending.returned (.int k a) = .returned (.int k b) := by rw [h]

theorem cmpNum_any (a b : Int) (w : World) : Calls Try.prog 26 #[.int .i64 a, .int .i64 b] w fun e w' => e = .returned (.int .i64 (cmpN a b)) ∧ w = w' := by
  unfold cmpN
  by_cases h : a < b
  · rw [if_pos h]
    go_enter Try.func26, Try.ntmps26
    go_wp2
    go_ret
    exact ⟨rfl, rfl⟩
  · rw [if_neg h]
    by_cases h2 : b < a
    · rw [if_pos h2]
      go_enter Try.func26, Try.ntmps26
      go_wp2
      go_ret
      exact ⟨rfl, rfl⟩
    · rw [if_neg h2]
      go_enter Try.func26, Try.ntmps26
      go_wp2
      go_ret
      exact ⟨rfl, rfl⟩

set_option maxHeartbeats 1000000 in
theorem cmpText_any (a b : ByteArray) (w : World) (ha : a.size ≤ maxLen) :
    Calls Try.prog 14 #[.string a, .string b] w fun e w' => e = .returned (.int .i64 (cmpT a.data.toList b.data.toList)) ∧ Below w.heap.size w w' := by
  unfold maxLen at ha
  have la : a.data.toList.length = a.size := by simp
  have lb : b.data.toList.length = b.size := by simp
  have LA := hide la
  have LB := hide lb
  clear la lb
  go_enter Try.func14, Try.ntmps14
  go_wp2
  go_loopw [5] (fun i w' => ∃ k : Nat, k ≤ a.size ∧ k ≤ b.size ∧ i = .int .i64 k ∧ Below w.heap.size w w' ∧ Hid (cmpT a.data.toList b.data.toList = cmpT (a.data.toList.drop k) (b.data.toList.drop k))) (fun i _ => a.size - (intOf i).toNat)
  case atStart => exact ⟨0, Nat.zero_le _, Nat.zero_le _, rfl, Below.refl _ _, hide (by simp)⟩
  case round =>
    obtain ⟨k, hk1, hk2, rfl, hbel, hc⟩ := hrel
    by_cases h1 : (k : Int) < (a.size : Int)
    · by_cases h2 : (k : Int) < (b.size : Int)
      · have h0 : (0 : Int) ≤ (k : Int) := by omega
        have ka : k < a.size := by omega
        have kb : k < b.size := by omega
        have eA : a.data.toList[k]'(by rw [unhide LA]; exact ka) = a[k] := rfl
        have eB : b.data.toList[k]'(by rw [unhide LB]; exact kb) = b[k] := rfl
        have EA := hide eA
        have EB := hide eB
        clear eA eB
        cases hne : ((a[k].toNat : Int) != (b[k].toNat : Int))
        · have he : a[k] = b[k] := by
            apply u8_eq; simpa using hne
          have HE := hide he
          clear he
          go_wp2
          go_quiet (fail)
          go_wp2
          go_roundw
          case rel => exact ⟨k + 1, by omega, by omega, by go_num, below_drewN hbel _, hide (by rw [unhide hc]; exact cmpT_drop_step _ _ k (by rw [unhide LA]; exact ka) (by rw [unhide LB]; exact kb) (unhide HE))⟩
          case measure => simp [intOf]; omega
        · have he : ¬ a[k] = b[k] := by
            intro h; rw [h] at hne; simp at hne
          have HE := hide he
          clear he
          have wA : IntKind.i64.wrap (a[k].toNat : Int) = (a[k].toNat : Int) := by rw [IntKind.wrap_i64]; have := a[k].toNat_lt; omega
          have wB : IntKind.i64.wrap (b[k].toNat : Int) = (b[k].toNat : Int) := by rw [IntKind.wrap_i64]; have := b[k].toNat_lt; omega
          go_wp2
          go_quiet (fail)
          replace hbel := below_drewN hbel nq
          generalize wr.drewN nq = w5 at hbel ⊢
          go_wp2
          go_quiet ((go_at_call 26; exact quiet_same (cmpNum_any _ _ _)))
          go_wp2
          go_ret
          refine ⟨ret_int ?_, below_drewN hbel _⟩
          rw [unhide hc, cmpT_drop_differ _ _ k (by rw [unhide LA]; exact ka) (by rw [unhide LB]; exact kb) (unhide HE)]
          rfl
      · have d2 : decide ((k : Int) < (b.size : Int)) = false := by simpa using h2
        go_wp2_with (go_at_call 26; refine (cmpNum_any _ _ _).mono ?_; rintro e w' ⟨rfl, rfl⟩)
        go_ret
        refine ⟨ret_int ?_, hbel⟩
        rw [unhide hc, cmpT_drop_end _ _ k (by rw [unhide LA, unhide LB]; omega), unhide LA, unhide LB]
    · have d1 : decide ((k : Int) < (a.size : Int)) = false := by simpa using h1
      go_wp2_with (go_at_call 26; refine (cmpNum_any _ _ _).mono ?_; rintro e w' ⟨rfl, rfl⟩)
      go_ret
      refine ⟨ret_int ?_, hbel⟩
      rw [unhide hc, cmpT_drop_end _ _ k (by rw [unhide LA, unhide LB]; omega), unhide LA, unhide LB]

theorem compareBytes_eq : ∀ a b : List UInt8, Lib.compareBytes a b = cmpT a b
  | [], [] => rfl
  | [], _ :: _ => rfl
  | _ :: _, [] => rfl
  | a :: x, b :: y => by
    unfold Lib.compareBytes cmpT
    by_cases e : a = b
    · subst e
      rw [if_neg (by simp), if_neg (by simp), if_pos rfl]
      exact compareBytes_eq x y
    · rw [if_neg e]
      unfold cmpN
      by_cases l : a < b
      · have l' : (a.toNat : Int) < (b.toNat : Int) := by have := UInt8.lt_iff_toNat_lt.1 l; omega
        rw [if_pos l, if_pos l']
      · have l' : ¬ (a.toNat : Int) < (b.toNat : Int) := fun h => l (UInt8.lt_iff_toNat_lt.2 (by omega))
        have l2 : (b.toNat : Int) < (a.toNat : Int) := by
          have : ¬ (a.toNat : Int) = (b.toNat : Int) := fun h => e (u8_eq h)
          omega
        rw [if_neg l, if_pos (UInt8.lt_iff_toNat_lt.2 (by omega)), if_neg l', if_pos l2]

theorem stringsCompare_any (a b : ByteArray) (w : World) : Calls Try.prog 21 #[.string a, .string b] w fun e w' => e = .returned (.int .i64 (cmpT a.data.toList b.data.toList)) ∧ w = w' := by
  refine (Try.strings_Compare a b w).mono ?_
  rintro e w' ⟨rfl, rfl⟩
  exact ⟨by rw [compareBytes_eq], rfl⟩
end Go.Proofs.Ytenbliiombjldaa
