/- QCut, AGt, one behind the other. -/
import Derived.Test.YticidjceljjfnaaGreatDoorJ8
/- strings.Cut at one byte; spec.l7Until. -/
namespace Go.Proofs.YticidjceljjfnaaGreatDoor
open Go.RowKit
set_option maxRecDepth 20000

theorem bDw {B : Nat} {w w' : World} (h : Below B w w') (k : Nat) : Below B w (w'.drewN k) := ⟨h.os, h.tape, h.output, h.size, h.block⟩
theorem mk_list (s : ByteArray) : (⟨s.data.toList.toArray⟩ : ByteArray) = s := by
  apply ByteArray.ext; simp
theorem sz_list (s : ByteArray) : s.data.toList.length = s.size := by simp
theorem cut_take (s : ByteArray) (k : Nat) : s.extract 0 k = ⟨(s.data.toList.take k).toArray⟩ := by
  apply ByteArray.ext
  apply Array.toList_inj.1
  simp [ByteArray.data_extract]
theorem cut_drop (s : ByteArray) (k : Nat) : s.extract k s.size = ⟨(s.data.toList.drop k).toArray⟩ := by
  apply ByteArray.ext
  apply Array.toList_inj.1
  simp [ByteArray.data_extract, List.take_of_length_le]
theorem ix_lt : ∀ (l : List UInt8) (c : UInt8), Lib.indexByte l c < l.length
  | [], c => by simp [Lib.indexByte]
  | b :: l, c => by
    have ih := ix_lt l c
    unfold Lib.indexByte
    split
    · simp
    · split
      · simp; omega
      · simp; omega
theorem str_neq {a b : ByteArray} (h : ¬ a = b) : ¬ a.toList = b.toList := by
  intro e
  rw [ByteArray.toList_eq, ByteArray.toList_eq] at e
  exact h (Go.WideShapes.bytes_inj e)
/-- strings.Cut at one byte. -/
def cutC (c : UInt8) (s : List UInt8) : List UInt8 × List UInt8 := if 0 ≤ Lib.indexByte s c then (s.take (Lib.indexByte s c).toNat, s.drop ((Lib.indexByte s c).toNat + 1)) else (s, [])
theorem ix_app : ∀ (c : UInt8) (a r : List UInt8), c ∉ a → Lib.indexByte (a ++ c :: r) c = a.length
  | c, [], r, _ => by simp [Lib.indexByte]
  | c, b :: a, r, h => by
    have hc : ¬ b = c := fun e => h (by rw [e]; simp)
    have ih := ix_app c a r (fun e => h (List.mem_cons_of_mem _ e))
    show Lib.indexByte (b :: (a ++ c :: r)) c = _
    unfold Lib.indexByte
    rw [ih]
    have h1 : (b == c) = false := by simpa using hc
    rw [h1]
    have h2 : ((a.length : Int) == -1) = false := by rw [beq_eq_false_iff_ne]; omega
    rw [h2]
    simp
theorem ix_none : ∀ (c : UInt8) (a : List UInt8), c ∉ a → Lib.indexByte a c = -1
  | c, [], _ => rfl
  | c, b :: a, h => by
    have hc : ¬ b = c := fun e => h (by rw [e]; simp)
    have ih := ix_none c a (fun e => h (List.mem_cons_of_mem _ e))
    unfold Lib.indexByte
    rw [ih]
    have h1 : (b == c) = false := by simpa using hc
    rw [h1]; rfl
theorem cutC_app (c : UInt8) (a r : List UInt8) (h : c ∉ a) : cutC c (a ++ c :: r) = (a, r) := by
  unfold cutC
  rw [ix_app c a r h, if_pos (by omega)]
  simp
theorem cutC_none (c : UInt8) (a : List UInt8) (h : c ∉ a) : cutC c a = (a, []) := by
  unfold cutC
  rw [ix_none c a h, if_neg (by omega)]

set_option maxHeartbeats 400000 in
theorem liteCutC (c : UInt8) (s : ByteArray) (w : World) (hs : s.size ≤ 1048576) :
    Calls Tryz.prog 80 #[.string s, .string ⟨#[c]⟩] w fun e w' => (∃ b : Bool, e = .returned (.tuple #[.string ⟨(cutC c s.data.toList).1.toArray⟩, .string ⟨(cutC c s.data.toList).2.toArray⟩, .bool b])) ∧ Below w.heap.size w w' := by
  have hI := hide (fun w => Tryz.stringslite_Index_one s c w)
  have hlt := ix_lt s.data.toList c
  have hge := Lib.indexByte_ge s.data.toList c
  rw [sz_list] at hlt
  have e1 := cut_take s
  have e2 := cut_drop s
  unfold cutC
  generalize Lib.indexByte s.data.toList c = J at hI hlt hge
  by_cases hJ : 0 ≤ J
  · obtain ⟨j, rfl⟩ := Int.eq_ofNat_of_zero_le hJ
    rw [if_pos hJ]
    simp only [Int.toNat_natCast]
    rw [← e1, ← e2]
    clear e1 e2 hge
    go_enter Tryz.func80, Tryz.ntmps80
    go_wp2_with fail
    refine (unhide hI _).mono ?_
    rintro e w1 ⟨rfl, rfl⟩
    have i0 : (0 : Int) ≤ (j : Int) := by omega
    have i1 : (j : Int) ≤ (s.size : Int) := by omega
    have i2 : (j : Int) + 1 ≤ (s.size : Int) := by omega
    go_wp2_with fail
    go_quiet (fail)
    go_wp2_with fail
    refine bodyPost_ret (v := .tuple #[.string (s.extract 0 j), .string (s.extract (j + 1) s.size), .bool true]) (by simp [results, Tryz.results80, go_sem]) rfl ⟨⟨_, rfl⟩, below_drewN (Below.refl _ _) _⟩
  · rw [if_neg hJ]
    simp only
    rw [mk_list]
    clear e1 e2
    go_enter Tryz.func80, Tryz.ntmps80
    go_wp2_with fail
    refine (unhide hI _).mono ?_
    rintro e w1 ⟨rfl, rfl⟩
    go_wp2_with fail
    refine bodyPost_ret (v := .tuple #[.string s, .string ⟨#[]⟩, .bool false]) (by simp [results, Tryz.results80, go_sem]) rfl ⟨⟨_, rfl⟩, Below.refl _ _⟩
theorem strCutC (c : UInt8) (s : ByteArray) (w : World) (hs : s.size ≤ 1048576) :
    Calls Tryz.prog 51 #[.string s, .string ⟨#[c]⟩] w fun e w' => (∃ b : Bool, e = .returned (.tuple #[.string ⟨(cutC c s.data.toList).1.toArray⟩, .string ⟨(cutC c s.data.toList).2.toArray⟩, .bool b])) ∧ Below w.heap.size w w' := by
  have hI := hide (fun w => liteCutC c s w hs)
  generalize (⟨(cutC c s.data.toList).1.toArray⟩ : ByteArray) = X at hI ⊢
  generalize (⟨(cutC c s.data.toList).2.toArray⟩ : ByteArray) = Y at hI ⊢
  go_enter Tryz.func51, Tryz.ntmps51
  go_wp2_with fail
  refine (unhide hI _).mono ?_
  rintro e w1 ⟨⟨b, rfl⟩, hb⟩
  have BB := hide hb
  clear hb hI
  go_wp2_with fail
  refine bodyPost_ret (v := .tuple #[.string X, .string Y, .bool b]) (by simp [results, Tryz.results51, go_sem]) rfl ⟨⟨_, rfl⟩, unhide BB⟩

/-- Where the first of some bytes stands. -/
def untN (st l : List UInt8) : Nat := l.findIdx (fun c => st.contains c)
theorem untN_le (st l : List UInt8) : untN st l ≤ l.length := List.findIdx_le_length
theorem untN_at {st l : List UInt8} {k : Nat} (hk : k < l.length) (h0 : ∀ j (hj : j < k), st.contains (l[j]'(by omega)) = false) (h1 : st.contains l[k] = true) : untN st l = k := by
  unfold untN
  rw [List.findIdx_eq hk]
  exact ⟨h1, fun j hj => by simpa using h0 j hj⟩
theorem untN_no {st l : List UInt8} (h0 : ∀ j (hj : j < l.length), st.contains (l[j]'hj) = false) : untN st l = l.length := by
  unfold untN
  rw [List.findIdx_eq_length]
  intro x hx
  obtain ⟨j, hj, rfl⟩ := List.getElem_of_mem hx
  exact h0 j hj
theorem untN_app {st a r : List UInt8} {c : UInt8} (ha : ∀ x ∈ a, st.contains x = false) (hc : st.contains c = true) : untN st (a ++ c :: r) = a.length := by
  apply untN_at (by simp)
  · intro j hj
    rw [List.getElem_append_left hj]
    exact ha _ (List.getElem_mem _)
  · simpa using hc

set_option maxHeartbeats 1000000 in
theorem l7Until_any (s st : ByteArray) (w : World) (hs : s.size ≤ 1048576) (ht : st.size ≤ 100) :
    Calls Tryz.prog 21 #[.string s, .string st] w fun e w' => e = .returned (.tuple #[.string ⟨(s.data.toList.take (untN st.data.toList s.data.toList)).toArray⟩, .string ⟨(s.data.toList.drop (untN st.data.toList s.data.toList)).toArray⟩]) ∧ Below w.heap.size w w' := by
  have zs := sz_list s
  have zt := sz_list st
  go_enter Tryz.func21, Tryz.ntmps21
  go_wp2_with fail
  go_loopw [6] (fun i w' => ∃ (k : Nat), k ≤ s.size ∧ i = .int .i64 k ∧ Hid (∀ j (hj : j < k) (hl : j < s.data.toList.length), st.data.toList.contains s.data.toList[j] = false) ∧ Hid (Below w.heap.size w w')) (fun i _ => s.size - (intOf i).toNat)
  case atStart => exact ⟨0, Nat.zero_le _, rfl, hide (fun j hj _ => absurd hj (Nat.not_lt_zero j)), hide (Below.refl _ _)⟩
  case round =>
    obtain ⟨k, hk, rfl, hn, hb⟩ := hrel
    by_cases hlt : k < s.size
    · have hk' : k < s.data.toList.length := by omega
      obtain ⟨c, hc⟩ : ∃ c, s[k] = c := ⟨_, rfl⟩
      have hc2 := hide (show s.data.toList[k] = c by rw [← hc]; rfl)
      have x1 := cut_take s k
      have x2 := cut_drop s k
      go_wp2_with fail
      go_loopw [7] (fun i w' => ∃ (m : Nat), m ≤ st.size ∧ i = .int .i64 m ∧ Hid (∀ j (hj : j < m) (hl : j < st.data.toList.length), ¬ st.data.toList[j] = c) ∧ Hid (Below w.heap.size w w')) (fun i _ => st.size - (intOf i).toNat)
      case atStart => exact ⟨0, Nat.zero_le _, rfl, hide (fun j hj _ => absurd hj (Nat.not_lt_zero j)), hb⟩
      case round =>
        obtain ⟨m, hm, rfl, hq, hb2⟩ := hrel
        by_cases hmt : m < st.size
        · have hm' : m < st.data.toList.length := by omega
          obtain ⟨d, hd⟩ : ∃ d, st[m] = d := ⟨_, rfl⟩
          have hd2 := hide (show st.data.toList[m] = d by rw [← hd]; rfl)
          cases cd : ((c.toNat : Int) == (d.toNat : Int))
          · go_wp2_with fail
            go_quiet (fail)
            go_wp2_with fail
            refine ⟨⟨m + 1, by omega, by simp, hide (fun j hj hl => ?_), hide (bDw (unhide hb2) _)⟩, by simp [intOf]; omega⟩
            rcases Nat.lt_succ_iff_lt_or_eq.1 hj with h | rfl
            · exact unhide hq j h hl
            · rw [unhide hd2]; intro e; rw [e] at cd; simp at cd
          · have hu := hide (show untN st.data.toList s.data.toList = k from untN_at hk' (fun j hj => unhide hn j hj (by omega)) (by
              have e : d = c := by
                have : (c.toNat : Int) = d.toNat := by simpa using cd
                exact UInt8.toNat_inj.1 (by omega)
              rw [List.contains_iff_mem, unhide hc2, ← e, ← unhide hd2]
              exact List.getElem_mem _))
            have i1 : (k : Int) ≤ (s.size : Int) := by omega
            go_wp2_with fail
            go_quiet (fail)
            go_wp2_with fail
            go_quiet (fail)
            go_wp2_with fail
            refine bodyPost_ret (v := .tuple #[.string ⟨(s.data.toList.take k).toArray⟩, .string ⟨(s.data.toList.drop k).toArray⟩]) (by simp [results, Tryz.results21, go_sem]) rfl ⟨by rw [unhide hu], bDw (bDw (unhide hb2) _) _⟩
        · have hall : st.data.toList.contains s.data.toList[k] = false := by
            rw [← Bool.not_eq_true, List.contains_iff_mem]
            intro hx
            obtain ⟨j, hj, e⟩ := List.getElem_of_mem hx
            exact unhide hq j (by omega) hj (by rw [e]; exact unhide hc2)
          go_wp2_with fail
          refine ⟨⟨k + 1, by omega, by simp, hide (fun j hj hl => ?_), hb2⟩, ?_⟩
          · rcases Nat.lt_succ_iff_lt_or_eq.1 hj with h | rfl
            · exact unhide hn j h hl
            · exact hall
          · simp only [intOf]; omega
    · have hall := hide (show untN st.data.toList s.data.toList = s.data.toList.length from untN_no (fun j hj => unhide hn j (by omega) hj))
      go_wp2_with fail
      refine bodyPost_ret (v := .tuple #[.string s, .string ⟨#[]⟩]) (by simp [results, Tryz.results21, go_sem]) rfl ⟨by rw [unhide hall, List.take_length, List.drop_length, mk_list], unhide hb⟩
end Go.Proofs.YticidjceljjfnaaGreatDoor
/- Texts within quotes, read: impl.guessText, spec.l1Unquoted. -/
namespace Go.Proofs.YticidjceljjfnaaGreatDoor
open Go.RowKit
set_option maxRecDepth 20000

/-- impl.guessText behind the first byte: all but the last byte, backslashes left out. -/
def gtx : List UInt8 → List UInt8
  | c :: d :: t => if c = 92 then d :: gtx t else c :: gtx (d :: t)
  | _ => []
theorem gtx_slash (d : UInt8) (t : List UInt8) : gtx (92 :: d :: t) = d :: gtx t := by simp [gtx]
theorem gtx_other {c : UInt8} (h : ¬ c = 92) (d : UInt8) (t : List UInt8) : gtx (c :: d :: t) = c :: gtx (d :: t) := by simp [gtx, h]
theorem gtx_short {l : List UInt8} (h : l.length ≤ 1) : gtx l = [] := by
  match l, h with
  | [], _ => rfl
  | [c], _ => rfl
theorem qs_cons (c : UInt8) (t : List UInt8) : qs (c :: t) = qb c ++ qs t := by simp [qs]
theorem qs_ends : ∀ t : List UInt8, ∃ d r, qs t ++ [34] = d :: r
  | [] => ⟨34, [], rfl⟩
  | c :: t => by
    rw [qs_cons]
    unfold qb
    split
    · exact ⟨92, _, rfl⟩
    · exact ⟨c, _, rfl⟩
theorem gtx_qs : ∀ t : List UInt8, gtx (qs t ++ [34]) = t
  | [] => rfl
  | c :: t => by
    have ih := gtx_qs t
    rw [qs_cons]
    unfold qb
    split
    · show gtx (92 :: c :: (qs t ++ [34])) = _
      rw [gtx_slash, ih]
    · rename_i h
      have h92 : ¬ c = 92 := fun e => h (.inr e)
      obtain ⟨d, r, e⟩ := qs_ends t
      show gtx (c :: (qs t ++ [34])) = _
      rw [e, gtx_other h92, ← e, ih]
theorem gtx_quo (t : List UInt8) : gtx ((quo t).drop 1) = t := gtx_qs t
theorem drop_two {l : List UInt8} {k : Nat} (h : k + 1 < l.length) : l.drop k = l[k] :: l[k + 1] :: l.drop (k + 2) := by
  rw [List.drop_eq_getElem_cons (by omega), List.drop_eq_getElem_cons (by omega)]

set_option maxHeartbeats 2000000 in
theorem guessText_any (s : ByteArray) (w : World) (hs : s.size ≤ 1048576) :
    Calls Tryz.prog 146 #[.string s] w fun e w' => e = .returned (.string ⟨(gtx (s.data.toList.drop 1)).toArray⟩) ∧ Below w.heap.size w w' := by
  obtain ⟨i0, hi, hz0, hz1, hz2⟩ := info_parts info_u8
  have zs := sz_list s
  go_enter Tryz.func146, Tryz.ntmps146
  go_wp2_with fail
  go_loopw [3, 4] (fun v i w' => ∃ (k : Nat) (pre : List UInt8), 1 ≤ k ∧ k ≤ s.size + 1 ∧ pre.length ≤ k ∧ i = .int .i64 k ∧ Hid (w'.ownsRow w.heap.size 5 1 v pre.length (pre.map byteV)) ∧ Hid (Below w.heap.size w w') ∧ Hid (pre ++ gtx (s.data.toList.drop k) = gtx (s.data.toList.drop 1))) (fun _ i _ => s.size + 2 - (intOf i).toNat)
  case atStart => exact ⟨1, [], by omega, by omega, by simp, rfl, hide (World.ownsRow_nil _ _ _ _), hide (Below.refl _ _), hide rfl⟩
  case round =>
    obtain ⟨k, pre, hk1, hk, hpre, rfl, hown, hb, hl⟩ := hrel
    by_cases hlt : k + 1 < s.size
    · have hk0 : k < s.size := by omega
      obtain ⟨c, hc⟩ : ∃ c, s[k] = c := ⟨_, rfl⟩
      obtain ⟨d, hd⟩ : ∃ d, s[k + 1] = d := ⟨_, rfl⟩
      have ed := hide (show s.data.toList.drop k = c :: d :: s.data.toList.drop (k + 2) by rw [drop_two (by omega), ← hc, ← hd]; rfl)
      have ed1 := hide (show s.data.toList.drop (k + 1) = d :: s.data.toList.drop (k + 2) by rw [List.drop_eq_getElem_cons (by omega), ← hd]; rfl)
      have e92 : ((c.toNat : Int) == 92) = decide (c = 92) := u8_is (n := 92) (by decide)
      have x1 : ¬ (s.size : Int) - 1 ≤ (k : Int) := by omega
      by_cases h92 : c = 92
      · have st := hide (show (pre ++ [d]) ++ gtx (s.data.toList.drop (k + 2)) = gtx (s.data.toList.drop 1) by
          rw [← unhide hl, unhide ed, h92, gtx_slash]; simp)
        rw [decide_eq_true h92] at e92
        clear h92
        go_wp2_with (at_builtin; refine wpList_append_own_at _ rfl _ _ 78 rfl w.heap.size 5 i0 (.int .u8 0) 1 1 Tryz.underlying78 hi hz0 hz1 hz2 rfl (by decide) _ _ _ rfl ((unhide hown).alloc _) ⟨_, 0, none⟩ 1 1 [byteV d] rfl rfl (cell_one_new _ _ _) (fun x hx => by simp at hx; subst hx; rfl) (by unfold maxLen; omega) (by omega) (by have := (unhide hb).size; simp; omega) ?_; intro v3 w3 hown3 hgrow3 _ hat3)
        exact ⟨⟨k + 2, pre ++ [d], by omega, by omega, by simp; omega, by go_num, hide (own_snocU hown3), hide ((bAl (unhide hb) _).grown hgrow3 (by have := (unhide hb).size; simp; omega) (fun j hj => ((unhide hown).lt j hj).1)), st⟩, by simp [intOf]; omega⟩
      · have st := hide (show (pre ++ [c]) ++ gtx (s.data.toList.drop (k + 1)) = gtx (s.data.toList.drop 1) by
          rw [← unhide hl, unhide ed, unhide ed1, gtx_other h92]; simp)
        rw [decide_eq_false h92] at e92
        clear h92
        go_wp2_with (at_builtin; refine wpList_append_own_at _ rfl _ _ 78 rfl w.heap.size 5 i0 (.int .u8 0) 1 1 Tryz.underlying78 hi hz0 hz1 hz2 rfl (by decide) _ _ _ rfl ((unhide hown).alloc _) ⟨_, 0, none⟩ 1 1 [byteV c] rfl rfl (cell_one_new _ _ _) (fun x hx => by simp at hx; subst hx; rfl) (by unfold maxLen; omega) (by omega) (by have := (unhide hb).size; simp; omega) ?_; intro v3 w3 hown3 hgrow3 _ hat3)
        exact ⟨⟨k + 1, pre ++ [c], by omega, by omega, by simp; omega, by go_num, hide (own_snocU hown3), hide ((bAl (unhide hb) _).grown hgrow3 (by have := (unhide hb).size; simp; omega) (fun j hj => ((unhide hown).lt j hj).1)), st⟩, by simp [intOf]; omega⟩
    · have st := hide (show pre = gtx (s.data.toList.drop 1) by
        rw [← unhide hl, gtx_short (l := s.data.toList.drop k) (by rw [List.length_drop]; omega), List.append_nil])
      have x1 : (s.size : Int) - 1 ≤ (k : Int) := by omega
      have cv := conv_own (unhide hown)
      go_wp2_with fail
      go_ret
      exact ⟨by rw [← unhide st]; rfl, unhide hb⟩
end Go.Proofs.YticidjceljjfnaaGreatDoor
