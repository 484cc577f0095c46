/- AUn, APur, one behind the other. -/
import Derived.Test.YticidjceljjfnaaGreatDoorJ11
import Derived.Test.YticidjceljjfnaaGreatDoorJ2
import Derived.Test.YticidjceljjfnaaGreatDoorJ10
import Derived.Lib.CountLaws
import Derived.Lib.Replace
import Derived.Lib.Split
/- Texts within quotes, read: spec.l1Unquoted. -/
namespace Go.Proofs.YticidjceljjfnaaGreatDoor
open Go.RowKit
set_option maxRecDepth 20000

theorem qs_step {t : List UInt8} {c : UInt8} {r : List UInt8} (h : qs t ++ [34] = c :: r) :
    (c = 34 → t = []) ∧ (c = 92 → ∃ d t', t = d :: t' ∧ r = d :: (qs t' ++ [34])) ∧ (¬ c = 34 → ¬ c = 92 → ∃ t', t = c :: t' ∧ r = qs t' ++ [34]) := by
  cases t with
  | nil =>
    have e : (34 : UInt8) :: [] = c :: r := h
    injection e with e1 e2
    exact ⟨fun _ => rfl, fun h => (by rw [← e1] at h; exact absurd h (by decide)), fun h => absurd e1.symm h⟩
  | cons x t =>
    rw [qs_cons] at h
    unfold qb at h
    split at h
    · have e : 92 :: x :: (qs t ++ [34]) = c :: r := h
      injection e with e1 e2
      exact ⟨fun h => (by rw [← e1] at h; exact absurd h (by decide)), fun _ => ⟨x, t, rfl, e2.symm⟩, fun _ h => absurd e1.symm h⟩
    · rename_i hx
      have e : x :: (qs t ++ [34]) = c :: r := h
      injection e with e1 e2
      subst e1
      exact ⟨fun h => absurd (.inl h) hx, fun h => absurd (.inr h) hx, fun _ _ => ⟨t, rfl, e2.symm⟩⟩
def UnqIs (l : List UInt8) (r : ByteArray) : Prop := r.size ≤ l.length + 1 ∧ ∀ t, l = quo t → r.data.toList = t
def UnqRet (l : List UInt8) (e : Ending) : Prop := ∃ (r : ByteArray) (b : Bool), e = .returned (.tuple #[.string r, .bool b]) ∧ UnqIs l r
theorem unq_no {l : List UInt8} (h : ∀ t, ¬ l = quo t) : UnqIs l ⟨#[]⟩ := ⟨Nat.zero_le _, fun t e => absurd e (h t)⟩
/-- So far. -/
def Unq (l : List UInt8) (k : Nat) (pre : List UInt8) : Prop := ∀ t, l = quo t → ∃ t2, t = pre ++ t2 ∧ l.drop k = qs t2 ++ [34]

set_option maxHeartbeats 2000000 in
theorem l1Unquoted_any (s : ByteArray) (w : World) (hs : s.size ≤ 1048576) :
    Calls Tryz.prog 103 #[.string s] w fun e w' => UnqRet s.data.toList e ∧ Below w.heap.size w w' := by
  obtain ⟨i0, hi, hz0, hz1, hz2⟩ := info_parts info_u8
  have zs := sz_list s
  by_cases h2 : s.size < 2
  · have hno := hide (unq_no (l := s.data.toList) (fun t e => by
      have := congrArg List.length e
      simp [quo] at this
      omega))
    go_enter Tryz.func103, Tryz.ntmps103
    go_wp2_with fail
    refine bodyPost_ret (v := .tuple #[.string ⟨#[]⟩, .bool false]) (by simp [results, Tryz.results103, go_sem]) rfl ⟨⟨_, _, rfl, unhide hno⟩, Below.refl _ _⟩
  have h0 : 0 < s.size := by omega
  obtain ⟨f, hf⟩ : ∃ f, s[0] = f := ⟨_, rfl⟩
  have hl0 : s.data.toList = f :: s.data.toList.drop 1 := by
    have : s.data.toList.drop 0 = _ := List.drop_eq_getElem_cons (l := s.data.toList) (i := 0) (by omega)
    rw [List.drop_zero] at this
    rw [this, ← hf]; rfl
  have e34 : ((f.toNat : Int) == 34) = decide (f = 34) := u8_is (n := 34) (by decide)
  by_cases h34 : f = 34
  · subst h34
    have HL := hide hl0
    clear hl0 e34
    go_enter Tryz.func103, Tryz.ntmps103
    go_wp2_with fail
    go_loopw [4, 5] (fun v i w' => ∃ (k : Nat) (pre : List UInt8), 1 ≤ k ∧ k ≤ s.size ∧ pre.length ≤ k ∧ i = .int .i64 k ∧ Hid (w'.ownsRow w.heap.size 5 1 v pre.length (pre.map byteV)) ∧ Hid (Below w.heap.size w w') ∧ Hid (Unq s.data.toList k pre)) (fun _ i _ => s.size + 2 - (intOf i).toNat)
    case atStart => exact ⟨1, [], by omega, by omega, by simp, rfl, hide (World.ownsRow_nil _ _ _ _), hide (Below.refl _ _), hide (fun t e => ⟨t, rfl, by rw [e]; rfl⟩)⟩
    case round =>
      obtain ⟨k, pre, hk1, hk, hpre, rfl, hown, hb, hl⟩ := hrel
      by_cases hlt : k < s.size
      · obtain ⟨c, hc⟩ : ∃ c, s[k] = c := ⟨_, rfl⟩
        have ed := hide (show s.data.toList.drop k = c :: s.data.toList.drop (k + 1) by rw [List.drop_eq_getElem_cons (by omega), ← hc]; rfl)
        have e34 : ((c.toNat : Int) == 34) = decide (c = 34) := u8_is (n := 34) (by decide)
        have e92 : ((c.toNat : Int) == 92) = decide (c = 92) := u8_is (n := 92) (by decide)
        by_cases h34 : c = 34
        · have fin := hide (show UnqIs s.data.toList ⟨pre.toArray⟩ from ⟨by show pre.toArray.size ≤ _; simp; omega, fun t e => by
            obtain ⟨t2, e1, e2⟩ := unhide hl t e
            rw [unhide ed] at e2
            have := (qs_step e2.symm).1 h34
            rw [e1, this]; simp⟩)
          rw [decide_eq_true h34] at e34
          have cv := conv_own (unhide hown)
          clear h34 e92 hl
          cases hx : ((k : Int) == (s.size : Int) - 1)
          · go_wp2_with fail
            refine bodyPost_ret (v := .tuple #[.string ⟨pre.toArray⟩, .bool false]) (by simp [results, Tryz.results103, go_sem]) rfl ⟨⟨_, _, rfl, unhide fin⟩, unhide hb⟩
          · go_wp2_with fail
            refine bodyPost_ret (v := .tuple #[.string ⟨pre.toArray⟩, .bool true]) (by simp [results, Tryz.results103, go_sem]) rfl ⟨⟨_, _, rfl, unhide fin⟩, unhide hb⟩
        · rw [decide_eq_false h34] at e34
          by_cases h92 : c = 92
          · rw [decide_eq_true h92] at e92
            by_cases hend : k + 1 = s.size
            · have hno := hide (unq_no (l := s.data.toList) (fun t e => by
                obtain ⟨t2, e1, e2⟩ := unhide hl t e
                rw [unhide ed] at e2
                obtain ⟨d, t3, _, e4⟩ := (qs_step e2.symm).2.1 h92
                rw [List.drop_of_length_le (by omega)] at e4
                cases e4))
              have hx : ((k : Int) + 1 == (s.size : Int)) = true := by simp; omega
              clear h92 h34 hl
              go_wp2_with fail
              refine bodyPost_ret (v := .tuple #[.string ⟨#[]⟩, .bool false]) (by simp [results, Tryz.results103, go_sem]) rfl ⟨⟨_, _, rfl, unhide hno⟩, unhide hb⟩
            · have hk2 : k + 1 < s.size := by omega
              obtain ⟨d, hd⟩ : ∃ d, s[k + 1] = d := ⟨_, rfl⟩
              have ed1 := hide (show s.data.toList.drop (k + 1) = d :: s.data.toList.drop (k + 2) by rw [List.drop_eq_getElem_cons (by omega), ← hd]; rfl)
              have st := hide (show Unq s.data.toList (k + 2) (pre ++ [d]) from fun t e => by
                obtain ⟨t2, e1, e2⟩ := unhide hl t e
                rw [unhide ed] at e2
                obtain ⟨d', t3, e3, e4⟩ := (qs_step e2.symm).2.1 h92
                rw [unhide ed1] at e4
                injection e4 with e5 e6
                exact ⟨t3, by rw [e1, e3, e5]; simp, e6⟩)
              have hx : ((k : Int) + 1 == (s.size : Int)) = false := by rw [beq_eq_false_iff_ne]; omega
              clear h92 h34 hl
              go_wp2_with (at_builtin; refine wpList_append_own_at _ rfl _ _ 78 rfl w.heap.size 5 i0 (.int .u8 0) 1 1 Tryz.underlying78 hi hz0 hz1 hz2 rfl (by decide) _ _ _ rfl ((unhide hown).alloc _) ⟨_, 0, none⟩ 1 1 [byteV d] rfl rfl (cell_one_new _ _ _) (fun x hx => by simp at hx; subst hx; rfl) (by unfold maxLen; omega) (by omega) (by have := (unhide hb).size; simp; omega) ?_; intro v3 w3 hown3 hgrow3 _ hat3)
              exact ⟨⟨k + 2, pre ++ [d], by omega, by omega, by simp; omega, by go_num, hide (own_snocU hown3), hide ((bAl (unhide hb) _).grown hgrow3 (by have := (unhide hb).size; simp; omega) (fun j hj => ((unhide hown).lt j hj).1)), st⟩, by simp [intOf]; omega⟩
          · rw [decide_eq_false h92] at e92
            have st := hide (show Unq s.data.toList (k + 1) (pre ++ [c]) from fun t e => by
              obtain ⟨t2, e1, e2⟩ := unhide hl t e
              rw [unhide ed] at e2
              obtain ⟨t3, e3, e4⟩ := (qs_step e2.symm).2.2 h34 h92
              exact ⟨t3, by rw [e1, e3]; simp, e4⟩)
            clear h92 h34 hl
            go_wp2_with (at_builtin; refine wpList_append_own_at _ rfl _ _ 78 rfl w.heap.size 5 i0 (.int .u8 0) 1 1 Tryz.underlying78 hi hz0 hz1 hz2 rfl (by decide) _ _ _ rfl ((unhide hown).alloc _) ⟨_, 0, none⟩ 1 1 [byteV c] rfl rfl (cell_one_new _ _ _) (fun x hx => by simp at hx; subst hx; rfl) (by unfold maxLen; omega) (by omega) (by have := (unhide hb).size; simp; omega) ?_; intro v3 w3 hown3 hgrow3 _ hat3)
            exact ⟨⟨k + 1, pre ++ [c], by omega, by omega, by simp; omega, by go_num, hide (own_snocU hown3), hide ((bAl (unhide hb) _).grown hgrow3 (by have := (unhide hb).size; simp; omega) (fun j hj => ((unhide hown).lt j hj).1)), st⟩, by simp [intOf]; omega⟩
      · have hno := hide (unq_no (l := s.data.toList) (fun t e => by
          obtain ⟨t2, e1, e2⟩ := unhide hl t e
          rw [List.drop_of_length_le (by omega)] at e2
          simp at e2))
        go_wp2_with fail
        refine bodyPost_ret (v := .tuple #[.string ⟨#[]⟩, .bool false]) (by simp [results, Tryz.results103, go_sem]) rfl ⟨⟨_, _, rfl, unhide hno⟩, unhide hb⟩
  · have hno := hide (unq_no (l := s.data.toList) (fun t e => by
      rw [hl0] at e
      unfold quo at e
      injection e with e1
      exact h34 e1))
    rw [decide_eq_false h34] at e34
    have e35 : ((f.toNat : Int) != 34) = true := by unfold bne; rw [e34]; rfl
    clear h34 hl0
    go_enter Tryz.func103, Tryz.ntmps103
    go_wp2_with fail
    refine bodyPost_ret (v := .tuple #[.string ⟨#[]⟩, .bool false]) (by simp [results, Tryz.results103, go_sem]) rfl ⟨⟨_, _, rfl, unhide hno⟩, Below.refl _ _⟩
end Go.Proofs.YticidjceljjfnaaGreatDoor
/- What reading an atom does to bytes: pure. -/
namespace Go.Proofs.YticidjceljjfnaaGreatDoor

theorem index_app (c : UInt8) (sub : List UInt8) : ∀ (a r : List UInt8), c ∉ a → Lib.index (a ++ (c :: sub ++ r)) (c :: sub) = a.length
  | [], r, _ => by
    have h : (c :: sub).isPrefixOf (c :: (sub ++ r)) = true := by
      rw [List.isPrefixOf_iff_prefix]; exact ⟨r, rfl⟩
    show Lib.index (c :: (sub ++ r)) (c :: sub) = _
    unfold Lib.index
    rw [h]; rfl
  | b :: a, r, h => by
    have hc : ¬ c = b := fun e => h (by rw [e]; simp)
    have ih := index_app c sub a r (fun e => h (List.mem_cons_of_mem _ e))
    show Lib.index (b :: (a ++ (c :: sub ++ r))) (c :: sub) = _
    unfold Lib.index
    have h1 : (c :: sub).isPrefixOf (b :: (a ++ (c :: sub ++ r))) = false := by
      have : (c == b) = false := by simpa using hc
      simp [List.isPrefixOf, this]
    rw [h1, ih]
    have h2 : ((a.length : Int) == -1) = false := by rw [beq_eq_false_iff_ne]; omega
    rw [h2]
    simp
theorem index_none (c : UInt8) (sub : List UInt8) : ∀ a : List UInt8, c ∉ a → Lib.index a (c :: sub) = -1
  | [], _ => rfl
  | b :: a, h => by
    have hc : ¬ c = b := fun e => h (by rw [e]; simp)
    have ih := index_none c sub a (fun e => h (List.mem_cons_of_mem _ e))
    unfold Lib.index
    have h1 : (c :: sub).isPrefixOf (b :: a) = false := by
      have : (c == b) = false := by simpa using hc
      simp [List.isPrefixOf, this]
    rw [h1, ih]; rfl
theorem cut_two (c : UInt8) (a r : List UInt8) (h : c ∉ a) : Lib.cut (a ++ (c :: c :: r)) [c, c] = (a, r, true) := by
  unfold Lib.cut
  have e := index_app c [c] a r h
  rw [show a ++ (c :: c :: r) = a ++ (c :: [c] ++ r) from rfl, e, if_pos (by omega)]
  simp
theorem replace_one (A B : List UInt8) (c : UInt8) (h : c ∉ A) : Lib.replaceK [c] [] (Lib.replaceNum (A ++ c :: B) [c] 1) (A ++ c :: B) = A ++ B := by
  have e := index_app c [] A B h
  have e' : Lib.index (A ++ c :: B) [c] = A.length := e
  have hc : Lib.count (A ++ c :: B) [c] = 1 + _ := Lib.count_hit (by simp) e'
  have hn : Lib.replaceNum (A ++ c :: B) [c] 1 = 1 := by
    unfold Lib.replaceNum
    rw [if_neg (by omega)]; rfl
  rw [hn, Lib.replaceK_hit [c] [] 0 _ _ e']
  unfold Lib.replaceK
  simp
theorem count_none {c : UInt8} {a : List UInt8} (h : c ∉ a) : Lib.count a [c] = 0 := Lib.count_miss (index_none c [] a h)
theorem split_join (c : UInt8) : ∀ (x : List UInt8) (L : List (List UInt8)), (∀ y ∈ x :: L, c ∉ y) → Lib.splitK [c] 0 (Lib.count (Lib.join (x :: L) [c]) [c]) (Lib.join (x :: L) [c]) = x :: L
  | x, [], h => by
    have e : Lib.join [x] [c] = x := by simp [Lib.join, List.intercalate]
    rw [e, count_none (h x (by simp))]; rfl
  | x, y :: L, h => by
    have ih := split_join c y L (fun z hz => h z (List.mem_cons_of_mem _ hz))
    have e : Lib.join (x :: y :: L) [c] = x ++ c :: Lib.join (y :: L) [c] := by simp [Lib.join, List.intercalate]
    have i := index_app c [] x (Lib.join (y :: L) [c]) (h x (by simp))
    have i' : Lib.index (x ++ c :: Lib.join (y :: L) [c]) [c] = x.length := i
    rw [e, Lib.count_hit (by simp) i']
    have hd : (x ++ c :: Lib.join (y :: L) [c]).drop (x.length + [c].length) = Lib.join (y :: L) [c] := by simp
    rw [hd, Nat.add_comm 1]
    unfold Lib.splitK
    have h2 : ((x.length : Int) == -1) = false := by rw [beq_eq_false_iff_ne]; omega
    rw [i', h2, if_neg (by simp)]
    have e2 : (x.length : Int).toNat = x.length := by simp
    rw [e2, hd, ih]
    simp
theorem itoa_chars (n : Int) : ∀ c ∈ Lib.itoa n, c = 45 ∨ Dig c := by
  intro c hc
  rcases itoa_head n with ⟨_, e⟩ | ⟨_, e⟩
  · rw [e, List.mem_cons] at hc
    rcases hc with h | h
    · exact .inl h
    · exact .inr (dec_dig _ c h)
  · rw [e] at hc
    exact .inr (dec_dig _ c hc)
theorem itoa_not {c : UInt8} (n : Int) (h45 : ¬ c = 45) (hd : ¬ Dig c) : c ∉ Lib.itoa n := fun h => (itoa_chars n c h).elim h45 hd
/-- A number out of four bytes. -/
def f256 (l : List Int) : Int := l.foldl (fun a x => a * 256 + x) 0
theorem f256_snoc (l : List Int) (x : Int) : f256 (l ++ [x]) = f256 l * 256 + x := by simp [f256]
end Go.Proofs.YticidjceljjfnaaGreatDoor
