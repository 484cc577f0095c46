/- GGd, GGe, one behind the other. -/
import Derived.Test.YtakjnbdjjeccoaaJ4
import Derived.Test.YtakjnbdjjeccoaaJ5
import Derived.Deep.RegionHeld3
/- Good nests: spec.l5Group, l5CmpNest, impl.isGroup, goodNest, compareNests, rising. -/
namespace Go.Proofs.Ytakjnbdjjeccoaa
open Go.RowKit

def orI (a b : Int) : Int := if a = 0 then b else a
theorem orI_not {a : Int} (h : ¬ a = 0) (b : Int) : orI a b = a := by unfold orI; rw [if_neg h]
theorem bne_zero {c : Int} (h : ¬ c = 0) : (c != 0) = true := by simpa using h
def b0 (s : ByteArray) : Nat := (s.data.toList[0]?.getD 0).toNat
/-- A group's name. -/
def isGrp (s : ByteArray) : Bool := goodName s && (decide (65 ≤ b0 s) && decide (b0 s ≤ 90))
theorem goodName_pos {s : ByteArray} (h : goodName s = true) : 0 < s.size := by
  rcases Nat.eq_zero_or_pos s.size with e | e
  · rw [goodName_size (.inl (by omega))] at h; cases h
  · exact e
theorem goodName_le {s : ByteArray} (h : goodName s = true) : s.size ≤ 30 := by
  rcases Nat.lt_or_ge 30 s.size with e | e
  · rw [goodName_size (.inr e)] at h; cases h
  · exact e
theorem b0_at (s : ByteArray) (h : 0 < s.size) : (b0 s : Int) = (s[0].toNat : Int) := digB_getD s h

set_option maxHeartbeats 400000 in
theorem l5Group_any (s : ByteArray) (hs : s.size ≤ maxLen) (w : World) :
    Calls Try.prog 42 #[.string s] w fun e w' => e = .returned (.bool (isGrp s)) ∧ w = w' := by
  have q := hide (fun w => sGoodName_any s hs w)
  unfold isGrp
  cases hg : goodName s
  · rw [hg] at q
    go_enter Try.func42, Try.ntmps42
    go_wp2_with (go_at_call 43; refine (unhide q _).mono ?_; rintro e w' ⟨rfl, rfl⟩)
    go_ret
    exact ⟨rfl, rfl⟩
  · rw [hg] at q
    have hp := goodName_pos hg
    have e0 := hide (b0_at s hp)
    clear hg
    go_enter Try.func42, Try.ntmps42
    go_wp2_with (go_at_call 43; refine (unhide q _).mono ?_; rintro e w' ⟨rfl, rfl⟩)
    all_goals go_ret
    all_goals
      refine ⟨ret_bool ?_, rfl⟩
      have e0 := unhide e0
      rw [Bool.eq_iff_iff]
      simp
      omega

set_option maxHeartbeats 400000 in
theorem isGroup_any (s : ByteArray) (hs : s.size ≤ maxLen) (w : World) :
    Calls Try.prog 67 #[.string s] w fun e w' => e = .returned (.bool (isGrp s)) ∧ Below w.heap.size w w' := by
  have q := hide (fun w => iGoodName_any s hs w)
  unfold isGrp
  cases hg : goodName s
  · rw [hg] at q
    go_enter Try.func67, Try.ntmps67
    go_wp2_with (go_at_call 79; refine (unhide q _).mono ?_; rintro e w1 ⟨rfl, hb⟩)
    go_ret
    exact ⟨rfl, hb⟩
  · rw [hg] at q
    have hp := goodName_pos hg
    have e0 := hide (b0_at s hp)
    clear hg
    go_enter Try.func67, Try.ntmps67
    go_wp2_with (go_at_call 79; refine (unhide q _).mono ?_; rintro e w1 ⟨rfl, hb⟩)
    all_goals go_ret
    all_goals
      refine ⟨ret_bool ?_, hb⟩
      have e0 := unhide e0
      rw [Bool.eq_iff_iff]
      simp
      omega
end Go.Proofs.Ytakjnbdjjeccoaa
/- Nests' order and what is a good one: impl.goodNest, compareNests, spec.l5CmpNest. -/
namespace Go.Proofs.Ytakjnbdjjeccoaa
open Go.RowKit

abbrev stT (s : ByteArray) : List UInt8 := s.data.toList
def cmpB (a b : ByteArray) : Int := cmpT a.data.toList b.data.toList
/-- The order of nests. -/
def cmpNe (g m g' m' : ByteArray) : Int := orI (cmpB g g') (cmpB m m')
/-- A nest as said. -/
def gNest (g m : ByteArray) : Bool := isGrp g && goodName m

set_option maxHeartbeats 400000 in
theorem goodNest_any (g m : ByteArray) (hg : g.size ≤ maxLen) (hm : m.size ≤ maxLen) (w : World) :
    Calls Try.prog 46 #[.agg #[.string g, .string m]] w fun e w' => e = .returned (.bool (gNest g m)) ∧ Below w.heap.size w w' := by
  have q1 := hide (fun w => isGroup_any g hg w)
  have q2 := hide (fun w => iGoodName_any m hm w)
  have HR := hide (RowIs.new w #[.string g, .string m] 42)
  have HB := hide (bAl (Below.refl w.heap.size w) (.cells #[.string g, .string m] 42))
  unfold gNest
  cases hx : isGrp g
  · rw [hx] at q1
    go_enter Try.func46, Try.ntmps46
    go_wp2_with fail
    refine (unhide q1 _).mono ?_
    rintro e w1 ⟨rfl, hb⟩
    have B1 := hide (bTr (unhide HB) hb)
    clear hb q1 q2 HR HB
    go_wp2_with fail
    go_ret
    exact ⟨rfl, unhide B1⟩
  · rw [hx] at q1
    go_enter Try.func46, Try.ntmps46
    go_wp2_with fail
    refine (unhide q1 _).mono ?_
    rintro e w1 ⟨rfl, hb⟩
    have B1 := hide (bTr (unhide HB) hb)
    have R1 := (unhide HR).keep hb
    have c1 := R1.at (o := 1) (v := .string m) rfl
    have z1 := R1.lt
    clear hb q1 HR HB R1
    go_wp2_with fail
    refine (unhide q2 _).mono ?_
    rintro e w2 ⟨rfl, hb⟩
    have B2 := hide (bTr (unhide B1) hb)
    clear hb B1 q2 c1 z1
    go_wp2_with fail
    go_ret
    exact ⟨rfl, unhide B2⟩

theorem cmpOr_any (b : Nat) (v0 v1 : Int) (w : World) (h0 : w.cell? ⟨b, 0, none⟩ = some (.int .i64 v0)) (h1 : w.cell? ⟨b, 1, none⟩ = some (.int .i64 v1)) :
    Calls Try.prog 80 #[.slice (some ⟨b, 0, none⟩) 2 2] w fun e w' => e = .returned (.int .i64 (orI v0 v1)) ∧ w = w' := by
  go_enter Try.func80, Try.ntmps80
  go_wp2
  go_loop [8] (fun i => ∃ k : Nat, k ≤ 2 ∧ i = .int .i64 k ∧ Hid (orI v0 v1 = if k = 0 then orI v0 v1 else if k = 1 then v1 else 0)) (fun i => 2 - (intOf i).toNat)
  case atStart => exact ⟨0, Nat.zero_le _, rfl, hide rfl⟩
  case round =>
    obtain ⟨k, hk, rfl, ho⟩ := hrel
    have hk' : k = 0 ∨ k = 1 ∨ k = 2 := by omega
    rcases hk' with rfl | rfl | rfl
    · by_cases g : v0 = 0
      · subst g
        go_wp2
        exact ⟨⟨1, by omega, rfl, hide rfl⟩, by simp [intOf]⟩
      · replace ho := hide (orI_not g v1)
        replace g := bne_zero g
        go_wp2
        go_ret
        exact ⟨ret_int (unhide ho).symm, rfl⟩
    · by_cases g : v1 = 0
      · subst g
        go_wp2
        exact ⟨⟨2, by omega, rfl, ho⟩, by simp [intOf]⟩
      · replace g := bne_zero g
        replace ho := hide (show orI v0 v1 = v1 from unhide ho)
        go_wp2
        go_ret
        exact ⟨ret_int (unhide ho).symm, rfl⟩
    · replace ho := hide (show orI v0 v1 = 0 from unhide ho)
      go_wp2
      go_ret
      exact ⟨ret_int (unhide ho).symm, rfl⟩

set_option maxHeartbeats 1000000 in
theorem compareNests_gr (t o t' o' : ByteArray) (w : World) :
    Calls Try.prog 48 #[.agg #[.string t, .string o], .agg #[.string t', .string o']] w fun e w' => e = .returned (.int .i64 (cmpNe t o t' o')) ∧ Gr w w' := by
  unfold cmpNe cmpB
  have h1 := hide (fun w => stringsCompare_any t t' w)
  have h2 := hide (fun w => stringsCompare_any o o' w)
  generalize cmpT t.data.toList t'.data.toList = v0 at h1 ⊢
  generalize cmpT o.data.toList o'.data.toList = v1 at h2 ⊢
  obtain ⟨W1, hW1⟩ : ∃ W, W = w.alloc (.cells #[.string t, .string o] 42) := ⟨_, rfl⟩
  obtain ⟨wc, hW2⟩ : ∃ W, W = W1.alloc (.cells #[.string t', .string o'] 42) := ⟨_, rfl⟩
  have z1 : W1.heap.size = w.heap.size + 1 := by rw [hW1]; simp
  have b1 : Below w.heap.size w W1 := by rw [hW1]; exact bAl (Below.refl _ _) _
  have b2 : Below W1.heap.size W1 wc := by rw [hW2]; exact bAl (Below.refl _ _) _
  have B := hide (show Gr w wc by rw [hW2, hW1]; exact ((Gr.refl w).alloc _).alloc _)
  have r1 := (show RowIs W1 w.heap.size #[.string t, .string o] 42 by rw [hW1]; exact RowIs.new _ _ _).keep b2
  have r2 := show RowIs wc (w.heap.size + 1) #[.string t', .string o'] 42 by rw [hW2, ← z1]; exact RowIs.new _ _ _
  have HW := hide (show (w.alloc (.cells #[.string t, .string o] 42)).alloc (.cells #[.string t', .string o'] 42) = wc by rw [hW2, hW1])
  have c0 := r1.at (o := 0) (v := .string t) rfl
  have c1 := r1.at (o := 1) (v := .string o) rfl
  have d0 := r2.at (o := 0) (v := .string t') rfl
  have d1 := r2.at (o := 1) (v := .string o') rfl
  have zA := r1.lt
  have zB := r2.lt
  clear hW1 hW2 z1 b1 b2 r1 r2
  go_enter Try.func48, Try.ntmps48
  go_wp2_with fail
  rw [unhide HW]
  clear HW
  go_region_held3 (fun w' => w'.cell? ⟨w.heap.size, 0, none⟩ = some (.string t) ∧ w'.cell? ⟨w.heap.size, 1, none⟩ = some (.string o) ∧ w'.cell? ⟨w.heap.size + 1, 0, none⟩ = some (.string t') ∧ w'.cell? ⟨w.heap.size + 1, 1, none⟩ = some (.string o'))
      ((refine ⟨cellB (W := wc) ?_ zA c0, cellB (W := wc) ?_ zA c1, cellB (W := wc) ?_ zB d0, cellB (W := wc) ?_ zB d1⟩ <;> (repeat (first | exact Below.refl _ _ | refine Below.drew ?_ | refine bAl ?_ _))))
      (first
        | (go_at_call_of 81 t; refine (unhide h1 _).mono ?_; rintro e w' ⟨rfl, rfl⟩)
        | (go_at_call_of 81 o; refine (unhide h2 _).mono ?_; rintro e w' ⟨rfl, rfl⟩)
        | (go_at_call 80; refine (cmpOr_any wc.heap.size v0 v1 _ ?_ ?_).mono ?_; (go_simp); (go_simp); rintro e w' ⟨rfl, rfl⟩))
  go_wp2_with fail
  go_ret
  refine ⟨rfl, (unhide B).trans ?_⟩
  (repeat (first | exact Gr.refl _ | refine Gr.drew ?_ | refine Gr.alloc ?_ _))

set_option maxHeartbeats 1000000 in
theorem l5CmpNest_any (t o t' o' : ByteArray) (ht : t.size ≤ maxLen) (ho : o.size ≤ maxLen) (w : World) :
    Calls Try.prog 44 #[.agg #[.string t, .string o], .agg #[.string t', .string o']] w fun e w' => e = .returned (.int .i64 (cmpNe t o t' o')) ∧ Below w.heap.size w w' := by
  unfold cmpNe cmpB
  have h1 := hide (fun w => cmpText_any t t' w ht)
  have h2 := hide (fun w => cmpText_any o o' w ho)
  generalize cmpT t.data.toList t'.data.toList = v0 at h1 ⊢
  generalize cmpT o.data.toList o'.data.toList = v1 at h2 ⊢
  obtain ⟨W1, hW1⟩ : ∃ W, W = w.alloc (.cells #[.string t, .string o] 42) := ⟨_, rfl⟩
  obtain ⟨wc, hW2⟩ : ∃ W, W = W1.alloc (.cells #[.string t', .string o'] 42) := ⟨_, rfl⟩
  have z1 : W1.heap.size = w.heap.size + 1 := by rw [hW1]; simp
  have b1 : Below w.heap.size w W1 := by rw [hW1]; exact bAl (Below.refl _ _) _
  have b2 : Below W1.heap.size W1 wc := by rw [hW2]; exact bAl (Below.refl _ _) _
  have B := hide (bTr b1 b2)
  have R1 := hide ((show RowIs W1 w.heap.size #[.string t, .string o] 42 by rw [hW1]; exact RowIs.new _ _ _).keep b2)
  have R2 := hide (show RowIs wc (w.heap.size + 1) #[.string t', .string o'] 42 by rw [hW2, ← z1]; exact RowIs.new _ _ _)
  have HW := hide (show (w.alloc (.cells #[.string t, .string o] 42)).alloc (.cells #[.string t', .string o'] 42) = wc by rw [hW2, hW1])
  clear hW1 hW2 z1 b1 b2
  go_enter Try.func44, Try.ntmps44
  go_wp2_with fail
  rw [unhide HW]
  clear HW
  refine (unhide h1 _).mono ?_
  rintro e w1 ⟨rfl, hb⟩
  have B1 := hide (bTr (unhide B) hb)
  have r1 := (unhide R1).keep hb
  have r2 := (unhide R2).keep hb
  have c1 := r1.at (o := 1) (v := .string o) rfl
  have d1 := r2.at (o := 1) (v := .string o') rfl
  have zA := r1.lt
  have zB := r2.lt
  clear hb r1 r2 R1 R2 B h1
  by_cases g : v0 = 0
  · subst g
    go_wp2_with fail
    refine (unhide h2 _).mono ?_
    rintro e w2 ⟨rfl, hb⟩
    have B2 := hide (bTr (unhide B1) hb)
    clear hb B1 h2 c1 d1 zA zB
    go_wp2_with fail
    go_ret
    exact ⟨ret_int (show v1 = orI 0 v1 from rfl), unhide B2⟩
  · have HO := hide (orI_not g v1)
    replace g := bne_zero g
    clear h2
    go_wp2_with fail
    go_ret
    exact ⟨ret_int (unhide HO).symm, unhide B1⟩
end Go.Proofs.Ytakjnbdjjeccoaa
