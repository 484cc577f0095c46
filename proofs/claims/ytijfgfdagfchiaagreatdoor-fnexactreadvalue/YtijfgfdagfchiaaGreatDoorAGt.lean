/- Texts within quotes, read: impl.guessText, spec.l1Unquoted. -/
import Derived.Test.YtijfgfdagfchiaaGreatDoorQQuo
import Derived.Test.YtijfgfdagfchiaaGreatDoorQCut
namespace Go.Proofs.YtijfgfdagfchiaaGreatDoor
open Go.RowKit
set_option maxRecDepth 20000

/-- impl.guessText behind the first byte: all but the last byte, backslashes left out. -/
def gtx : List UInt8 → List UInt8
  | c :: d :: t => if c = 92 then d :: gtx t else c :: gtx (d :: t)
  | _ => []
theorem gtx_slash (d : UInt8) (t : List UInt8) : gtx (92 :: d :: t) = d :: gtx t := by simp [gtx]
theorem gtx_other {c : UInt8} (h : ¬ c = 92) (d : UInt8) (t : List UInt8) : gtx (c :: d :: t) = c :: gtx (d :: t) := by simp [gtx, h]
theorem gtx_short {l : List UInt8} (h : l.length ≤ 1) : gtx l = [] := by
  match l, h with
  | [], _ => rfl
  | [c], _ => rfl
theorem qs_cons (c : UInt8) (t : List UInt8) : qs (c :: t) = qb c ++ qs t := by simp [qs]
theorem qs_ends : ∀ t : List UInt8, ∃ d r, qs t ++ [34] = d :: r
  | [] => ⟨34, [], rfl⟩
  | c :: t => by
    rw [qs_cons]
    unfold qb
    split
    · exact ⟨92, _, rfl⟩
    · exact ⟨c, _, rfl⟩
theorem gtx_qs : ∀ t : List UInt8, gtx (qs t ++ [34]) = t
  | [] => rfl
  | c :: t => by
    have ih := gtx_qs t
    rw [qs_cons]
    unfold qb
    split
    · show gtx (92 :: c :: (qs t ++ [34])) = _
      rw [gtx_slash, ih]
    · rename_i h
      have h92 : ¬ c = 92 := fun e => h (.inr e)
      obtain ⟨d, r, e⟩ := qs_ends t
      show gtx (c :: (qs t ++ [34])) = _
      rw [e, gtx_other h92, ← e, ih]
theorem gtx_quo (t : List UInt8) : gtx ((quo t).drop 1) = t := gtx_qs t
theorem drop_two {l : List UInt8} {k : Nat} (h : k + 1 < l.length) : l.drop k = l[k] :: l[k + 1] :: l.drop (k + 2) := by
  rw [List.drop_eq_getElem_cons (by omega), List.drop_eq_getElem_cons (by omega)]

set_option maxHeartbeats 2000000 in
theorem guessText_any (s : ByteArray) (w : World) (hs : s.size ≤ 1048576) :
    Calls Tryz.prog 39 #[.string s] w fun e w' => e = .returned (.string ⟨(gtx (s.data.toList.drop 1)).toArray⟩) ∧ Below w.heap.size w w' := by
  obtain ⟨i0, hi, hz0, hz1, hz2⟩ := info_parts info_u8
  have zs := sz_list s
  go_enter Tryz.func39, Tryz.ntmps39
  go_wp2_with fail
  go_loopw [3, 4] (fun v i w' => ∃ (k : Nat) (pre : List UInt8), 1 ≤ k ∧ k ≤ s.size + 1 ∧ pre.length ≤ k ∧ i = .int .i64 k ∧ Hid (w'.ownsRow w.heap.size 5 1 v pre.length (pre.map byteV)) ∧ Hid (Below w.heap.size w w') ∧ Hid (pre ++ gtx (s.data.toList.drop k) = gtx (s.data.toList.drop 1))) (fun _ i _ => s.size + 2 - (intOf i).toNat)
  case atStart => exact ⟨1, [], by omega, by omega, by simp, rfl, hide (World.ownsRow_nil _ _ _ _), hide (Below.refl _ _), hide rfl⟩
  case round =>
    obtain ⟨k, pre, hk1, hk, hpre, rfl, hown, hb, hl⟩ := hrel
    by_cases hlt : k + 1 < s.size
    · have hk0 : k < s.size := by omega
      obtain ⟨c, hc⟩ : ∃ c, s[k] = c := ⟨_, rfl⟩
      obtain ⟨d, hd⟩ : ∃ d, s[k + 1] = d := ⟨_, rfl⟩
      have ed := hide (show s.data.toList.drop k = c :: d :: s.data.toList.drop (k + 2) by rw [drop_two (by omega), ← hc, ← hd]; rfl)
      have ed1 := hide (show s.data.toList.drop (k + 1) = d :: s.data.toList.drop (k + 2) by rw [List.drop_eq_getElem_cons (by omega), ← hd]; rfl)
      have e92 : ((c.toNat : Int) == 92) = decide (c = 92) := u8_is (n := 92) (by decide)
      have x1 : ¬ (s.size : Int) - 1 ≤ (k : Int) := by omega
      by_cases h92 : c = 92
      · have st := hide (show (pre ++ [d]) ++ gtx (s.data.toList.drop (k + 2)) = gtx (s.data.toList.drop 1) by
          rw [← unhide hl, unhide ed, h92, gtx_slash]; simp)
        rw [decide_eq_true h92] at e92
        clear h92
        go_wp2_with (at_builtin; refine wpList_append_own_at _ rfl _ _ 69 rfl w.heap.size 5 i0 (.int .u8 0) 1 1 Tryz.underlying69 hi hz0 hz1 hz2 rfl (by decide) _ _ _ rfl ((unhide hown).alloc _) ⟨_, 0, none⟩ 1 1 [byteV d] rfl rfl (cell_one_new _ _ _) (fun x hx => by simp at hx; subst hx; rfl) (by unfold maxLen; omega) (by omega) (by have := (unhide hb).size; simp; omega) ?_; intro v3 w3 hown3 hgrow3 _ hat3)
        exact ⟨⟨k + 2, pre ++ [d], by omega, by omega, by simp; omega, by go_num, hide (own_snocU hown3), hide ((bAl (unhide hb) _).grown hgrow3 (by have := (unhide hb).size; simp; omega) (fun j hj => ((unhide hown).lt j hj).1)), st⟩, by simp [intOf]; omega⟩
      · have st := hide (show (pre ++ [c]) ++ gtx (s.data.toList.drop (k + 1)) = gtx (s.data.toList.drop 1) by
          rw [← unhide hl, unhide ed, unhide ed1, gtx_other h92]; simp)
        rw [decide_eq_false h92] at e92
        clear h92
        go_wp2_with (at_builtin; refine wpList_append_own_at _ rfl _ _ 69 rfl w.heap.size 5 i0 (.int .u8 0) 1 1 Tryz.underlying69 hi hz0 hz1 hz2 rfl (by decide) _ _ _ rfl ((unhide hown).alloc _) ⟨_, 0, none⟩ 1 1 [byteV c] rfl rfl (cell_one_new _ _ _) (fun x hx => by simp at hx; subst hx; rfl) (by unfold maxLen; omega) (by omega) (by have := (unhide hb).size; simp; omega) ?_; intro v3 w3 hown3 hgrow3 _ hat3)
        exact ⟨⟨k + 1, pre ++ [c], by omega, by omega, by simp; omega, by go_num, hide (own_snocU hown3), hide ((bAl (unhide hb) _).grown hgrow3 (by have := (unhide hb).size; simp; omega) (fun j hj => ((unhide hown).lt j hj).1)), st⟩, by simp [intOf]; omega⟩
    · have st := hide (show pre = gtx (s.data.toList.drop 1) by
        rw [← unhide hl, gtx_short (l := s.data.toList.drop k) (by rw [List.length_drop]; omega), List.append_nil])
      have x1 : (s.size : Int) - 1 ≤ (k : Int) := by omega
      have cv := conv_own (unhide hown)
      go_wp2_with fail
      go_ret
      exact ⟨by rw [← unhide st]; rfl, unhide hb⟩
end Go.Proofs.YtijfgfdagfchiaaGreatDoor
