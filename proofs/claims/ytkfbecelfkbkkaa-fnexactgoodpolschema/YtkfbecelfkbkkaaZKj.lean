/- impl.isKind at a bound isType. -/
import Derived.Test.YtkfbecelfkbkkaaZPx
namespace Go.Proofs.Ytkfbecelfkbkkaa.V
set_option linter.unusedSimpArgs false
set_option linter.unusedVariables false
open Go.RowKit

def kindP (P : ByteArray → Prop) (kind : ByteArray) : Prop := (preB (cutB kind setP) refP = true ∧ P (cutB (cutB kind setP) refP)) ∨ (preB (cutB kind setP) refP = false ∧ cutB kind setP ∈ six)
theorem cutB_le (s p : ByteArray) : (cutB s p).size ≤ s.size := by
  unfold cutB
  split
  · simp
  · exact Nat.le_refl _
set_option maxRecDepth 20000 in
set_option maxHeartbeats 2000000 in
theorem isKind_typ (b1 b2 : Nat) (P : ByteArray → Prop) (kind : ByteArray) (w : World) (hk : kind.size ≤ maxLen)
    (q : ∀ s : ByteArray, s.size ≤ maxLen → ∀ w' : World, Below w.heap.size w w' → Calls Try.prog 125 #[.agg #[.map (some b1), .map (some b2)], .string s] w' fun e w'' => RetB e (P s) ∧ Below w'.heap.size w' w'') :
    Calls Try.prog 149 #[.string kind, .func (.func 125) #[.agg #[.map (some b1), .map (some b2)]] #[]] w fun e w' => RetB e (kindP P kind) ∧ Below w.heap.size w w' := by
  have q1 := hide (fun w => trimPrefix_any kind setP w hk (by rw [setP_size]; unfold maxLen; omega))
  have hK9 : (cutB kind setP).size ≤ maxLen := Nat.le_trans (cutB_le _ _) hk
  have q2 := hide (fun w => cutPrefix_any (cutB kind setP) refP w hK9 (by rw [refP_size]; unfold maxLen; omega))
  have q3 := hide (q (cutB (cutB kind setP) refP) (Nat.le_trans (cutB_le _ _) hK9) w (Below.refl _ _))
  obtain ⟨K, hK⟩ : ∃ K, K = cutB kind setP := ⟨_, rfl⟩
  have HK := hide hK.symm
  rw [← hK] at q1 q2 q3
  have B := hide (Below.refl w.heap.size w)
  clear hK hK9 hk q
  unfold setP at q1
  unfold refP at q2
  cases hp : preB K refP
  · have HP : Hid (preB (cutB kind setP) refP = false) := hide (by rw [unhide HK]; exact hp)
    have hq : Hid (preB K ⟨#[114, 101, 102, 32]⟩ = false) := hide hp
    clear hp q3
    generalize cutB K ⟨#[114, 101, 102, 32]⟩ = Y at q2
    rw [unhide hq] at q2
    go_enter Try.func149, Try.ntmps149
    go_wp2_with fail
    refine (unhide q1 _).mono ?_
    rintro e w1 ⟨rfl, rfl⟩
    clear q1
    go_wp2_with fail
    refine (unhide q2 _).mono ?_
    rintro e w1 ⟨rfl, rfl⟩
    clear q2 hq
    have q := True.intro
    by_cases n0 : K = ⟨#[98, 111, 111, 108]⟩
    case pos =>
      have yes : Hid (kindP P kind) := hide (.inr ⟨unhide HP, by rw [unhide HK, n0]; simp [six]⟩)
      have e0 : (K.toList == [98, 111, 111, 108]) = true := by rw [n0, ByteArray.toList_eq]; rfl
      clear n0 HP HK q
      go_wp2_with fail
      go_ret
      exact ⟨retB (b := true) ⟨fun _ => unhide yes, fun _ => rfl⟩, unhide B⟩
    have e0 : (K.toList == [98, 111, 111, 108]) = false := by have h := str_neY n0; rw [ByteArray.toList_eq ⟨#[98, 111, 111, 108]⟩] at h; exact h
    by_cases n1 : K = ⟨#[110, 117, 109]⟩
    case pos =>
      have yes : Hid (kindP P kind) := hide (.inr ⟨unhide HP, by rw [unhide HK, n1]; simp [six]⟩)
      have e1 : (K.toList == [110, 117, 109]) = true := by rw [n1, ByteArray.toList_eq]; rfl
      clear n1 HP HK q
      go_wp2_with fail
      go_ret
      exact ⟨retB (b := true) ⟨fun _ => unhide yes, fun _ => rfl⟩, unhide B⟩
    have e1 : (K.toList == [110, 117, 109]) = false := by have h := str_neY n1; rw [ByteArray.toList_eq ⟨#[110, 117, 109]⟩] at h; exact h
    by_cases n2 : K = ⟨#[116, 101, 120, 116]⟩
    case pos =>
      have yes : Hid (kindP P kind) := hide (.inr ⟨unhide HP, by rw [unhide HK, n2]; simp [six]⟩)
      have e2 : (K.toList == [116, 101, 120, 116]) = true := by rw [n2, ByteArray.toList_eq]; rfl
      clear n2 HP HK q
      go_wp2_with fail
      go_ret
      exact ⟨retB (b := true) ⟨fun _ => unhide yes, fun _ => rfl⟩, unhide B⟩
    have e2 : (K.toList == [116, 101, 120, 116]) = false := by have h := str_neY n2; rw [ByteArray.toList_eq ⟨#[116, 101, 120, 116]⟩] at h; exact h
    by_cases n3 : K = ⟨#[100, 101, 99]⟩
    case pos =>
      have yes : Hid (kindP P kind) := hide (.inr ⟨unhide HP, by rw [unhide HK, n3]; simp [six]⟩)
      have e3 : (K.toList == [100, 101, 99]) = true := by rw [n3, ByteArray.toList_eq]; rfl
      clear n3 HP HK q
      go_wp2_with fail
      go_ret
      exact ⟨retB (b := true) ⟨fun _ => unhide yes, fun _ => rfl⟩, unhide B⟩
    have e3 : (K.toList == [100, 101, 99]) = false := by have h := str_neY n3; rw [ByteArray.toList_eq ⟨#[100, 101, 99]⟩] at h; exact h
    by_cases n4 : K = ⟨#[97, 100, 100, 114]⟩
    case pos =>
      have yes : Hid (kindP P kind) := hide (.inr ⟨unhide HP, by rw [unhide HK, n4]; simp [six]⟩)
      have e4 : (K.toList == [97, 100, 100, 114]) = true := by rw [n4, ByteArray.toList_eq]; rfl
      clear n4 HP HK q
      go_wp2_with fail
      go_ret
      exact ⟨retB (b := true) ⟨fun _ => unhide yes, fun _ => rfl⟩, unhide B⟩
    have e4 : (K.toList == [97, 100, 100, 114]) = false := by have h := str_neY n4; rw [ByteArray.toList_eq ⟨#[97, 100, 100, 114]⟩] at h; exact h
    by_cases n5 : K = ⟨#[116, 105, 109, 101]⟩
    case pos =>
      have yes : Hid (kindP P kind) := hide (.inr ⟨unhide HP, by rw [unhide HK, n5]; simp [six]⟩)
      have e5 : (K.toList == [116, 105, 109, 101]) = true := by rw [n5, ByteArray.toList_eq]; rfl
      clear n5 HP HK q
      go_wp2_with fail
      go_ret
      exact ⟨retB (b := true) ⟨fun _ => unhide yes, fun _ => rfl⟩, unhide B⟩
    have e5 : (K.toList == [116, 105, 109, 101]) = false := by have h := str_neY n5; rw [ByteArray.toList_eq ⟨#[116, 105, 109, 101]⟩] at h; exact h
    have no : Hid (¬ kindP P kind) := hide (fun h => by
      rcases h with h | h
      · rw [unhide HP] at h; cases h.1
      · have := h.2; rw [unhide HK] at this; simp only [six, List.mem_cons, List.not_mem_nil, or_false] at this
        rcases this with h | h | h | h | h | h
        · exact n0 h
        · exact n1 h
        · exact n2 h
        · exact n3 h
        · exact n4 h
        · exact n5 h)
    clear HP HK q n0 n1 n2 n3 n4 n5
    go_wp2_with fail
    go_ret
    exact ⟨retB (b := false) ⟨fun h => (by cases h), fun h => absurd h (unhide no)⟩, unhide B⟩
  · have HP : Hid (preB (cutB kind setP) refP = true) := hide (by rw [unhide HK]; exact hp)
    have HI : Hid (kindP P kind ↔ P (cutB K refP)) := hide (by
      unfold kindP
      rw [unhide HP, unhide HK]
      simp)
    have hq : Hid (preB K ⟨#[114, 101, 102, 32]⟩ = true) := hide hp
    clear hp
    obtain ⟨Y, hY⟩ : ∃ Y, Y = cutB K refP := ⟨_, rfl⟩
    rw [← hY] at q3 HI
    have hY' : cutB K ⟨#[114, 101, 102, 32]⟩ = Y := hY.symm
    rw [unhide hq, hY'] at q2
    clear hY hY' hq HK HP
    go_enter Try.func149, Try.ntmps149
    go_wp2_with fail
    refine (unhide q1 _).mono ?_
    rintro e w1 ⟨rfl, rfl⟩
    clear q1
    go_wp2_with fail
    refine (unhide q2 _).mono ?_
    rintro e w1 ⟨rfl, rfl⟩
    clear q2
    go_wp2_with fail
    refine (unhide q3).mono ?_
    rintro e w2 ⟨⟨v, rfl, hv⟩, hb⟩
    have HV := hide hv
    have BB := hide hb
    clear q3 hv hb
    go_wp2_with fail
    go_ret
    exact ⟨retB (b := v) ((unhide HV).trans (unhide HI).symm), unhide BB⟩
end Go.Proofs.Ytkfbecelfkbkkaa.V
