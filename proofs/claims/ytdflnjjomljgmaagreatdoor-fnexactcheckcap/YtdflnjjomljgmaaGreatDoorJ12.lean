/- QItoa, QQuo, one behind the other. -/
import Derived.Test.YtdflnjjomljgmaaGreatDoorJ8
import Derived.Test.YtdflnjjomljgmaaGreatDoorShelf
import Derived.Lib.SmallJoins
import Derived.Lib.SlBytesRow
import Derived.Lib.BufferRead
import Derived.Lib.ItoaLen
import Derived.Laws.AppendOwn
import Derived.Laws.MakeOwn
import Derived.OwnWalk
import Derived.Maps.AppendAt
/- strconv.Itoa, spec.l1Size, spec.l1Num. -/
namespace Go.Proofs.YtdflnjjomljgmaaGreatDoor
open Go.RowKit

def Tab (w : World) : Prop := Lib.TabIs Tryz.prog w "internal/strconv.uint64pow10" .u64 Lib.pow10Tab
theorem gPow : Tryz.prog.globalNamed "internal/strconv.uint64pow10" = some 3 := by kernel_rfl
theorem Tab.keep {w w' : World} (h : Tab w) (hb : Below w.heap.size w w') : Tab w' := Go.Joins.tab_stays gPow h hb (Nat.le_refl _)
theorem grow_below (w : World) (os : Array Obj) : Below w.heap.size w (Go.Sort.grow w os) :=
  ⟨rfl, rfl, rfl, by show w.heap.size ≤ (w.heap ++ os).size; simp, fun k hk => by show (w.heap ++ os)[k]? = _; rw [Array.getElem?_append_left hk]⟩
theorem itoa_any (n : Int) (w : World) (h0 : -9223372036854775808 ≤ n) (h1 : n ≤ 9223372036854775807) (ht : Tab w) :
    Calls Tryz.prog 139 #[.int .i64 n] w fun e w' => e = .returned (.string ⟨(Lib.itoa n).toArray⟩) ∧ Below w.heap.size w w' :=
  (Tryz.strconv_Itoa n h0 h1 w ht).mono fun e w' ⟨he, k, os, hw⟩ => ⟨he, by rw [hw]; exact (below_drewN (Below.refl _ _) k).trans (show Below w.heap.size (w.drewN k) _ from grow_below (w.drewN k) os)⟩

def byteV (c : UInt8) : Value := .int .u8 (c.toNat : Int)
/-- Block b holds the cells C. -/
def RowIs (w : World) (b : Nat) (C : Array Value) (T : TypeId) : Prop := w.heap[b]? = some (.cells C T (0, 0))
theorem RowIs.cell {w : World} {b : Nat} {C : Array Value} {T : TypeId} (h : RowIs w b C T) (o : Nat) : w.cell? ⟨b, o, none⟩ = C[o]? := by
  unfold RowIs at h; simp [World.cell?, h]
theorem RowIs.new (w : World) (C : Array Value) (T : TypeId) : RowIs (w.alloc (.cells C T)) w.heap.size C T := by
  unfold RowIs; show (w.heap.push _)[w.heap.size]? = _; simp
theorem conv_own {w : World} {base : Nat} {v : Value} {l : List UInt8} (h : w.ownsRow base 5 1 v l.length (l.map byteV)) :
    (convert 22 9 v).run Tryz.prog w = .ok (.string ⟨l.toArray⟩) w := by
  rcases h.2 with ⟨rfl, e⟩ | ⟨g, cap, cur, rfl, _, hh, _, _, hsz, htk⟩
  · have : l = [] := List.length_eq_zero_iff.1 e
    subst this
    exact Go.Lib.run_convert_nil_bytes w 22 9 5 0 Tryz.underlying22 Tryz.underlying5 Tryz.underlying9
  · have := Go.Lib.run_convert_whole (P := Tryz.prog) w 22 5 9 Tryz.underlying22 Tryz.underlying5 Tryz.underlying9 g 0 ⟨l.toArray⟩ (fun i hi => by
      have hi' : i < l.length := hi
      have hr : RowIs w g cur 5 := hh
      have f0 : (l.map byteV)[i]? = some (.int .u8 (l[i].toNat : Int)) := by simp [byteV, hi']
      rw [← htk, List.getElem?_take] at f0
      rw [Nat.zero_add, hr.cell, ← Array.getElem?_toList]
      split at f0
      · exact f0
      · cases f0) cap
    exact this
theorem own_new (w : World) (c : UInt8) : (w.alloc (.cells #[.int .u8 (c.toNat : Int)] 5)).ownsRow w.heap.size 5 1 (.slice (some ⟨w.heap.size, 0, none⟩) 1 1) ([c] : List UInt8).length (([c] : List UInt8).map byteV) := by
  refine ⟨by simp, .inr ⟨w.heap.size, 1, #[.int .u8 (c.toNat : Int)], rfl, Nat.le_refl _, ?_, Nat.le_refl _, by decide, by simp, by simp [byteV]⟩⟩
  exact RowIs.new w #[.int .u8 (c.toNat : Int)] 5

/-- The digits of n, ahead of O. -/
def dgt (n : Nat) (O : List UInt8) : List UInt8 := if _h : n = 0 then O else dgt (n / 10) (UInt8.ofNat (48 + n % 10) :: O)
termination_by n
decreasing_by omega
theorem dgt_zero (O : List UInt8) : dgt 0 O = O := by rw [dgt]; simp
theorem dgt_step {n : Nat} (h : ¬ n = 0) (O : List UInt8) : dgt n O = dgt (n / 10) (UInt8.ofNat (48 + n % 10) :: O) := by
  conv => lhs; rw [dgt]
  rw [dif_neg h]
theorem dgt_is (n : Nat) : ∀ O, ¬ n = 0 → dgt n O = Lib.decDigits n ++ O := by
  induction n using Nat.strongRecOn with
  | _ n ih =>
    intro O h
    rw [dgt_step h]
    by_cases h10 : n < 10
    · rw [Lib.decDigits, dif_pos h10, show n / 10 = 0 by omega, dgt_zero, Nat.mod_eq_of_lt h10]; rfl
    · rw [ih (n / 10) (by omega) _ (by omega)]
      conv => rhs; rw [Lib.decDigits, dif_neg h10]
      simp
theorem app_one (c : UInt8) (O : List UInt8) : ((⟨#[c]⟩ : ByteArray) ++ ⟨O.toArray⟩ : ByteArray) = ⟨(c :: O).toArray⟩ := by
  apply ByteArray.ext
  apply Array.toList_inj.1
  simp [ByteArray.data_append]

set_option maxRecDepth 8000 in
set_option maxHeartbeats 1000000 in
theorem l1Size_any (n : Int) (w : World) (h0 : -9223372036854775808 ≤ n) (h1 : n ≤ 9223372036854775807) :
    Calls Tryz.prog 92 #[.int .i64 n] w fun e w' => e = .returned (.string ⟨(Lib.decDigits n.natAbs).toArray⟩) ∧ Below w.heap.size w w' := by
  by_cases hn : n = 0
  · subst hn
    go_enter Tryz.func92, Tryz.ntmps92
    go_wp2_with fail
    go_ret
    exact ⟨by rw [show Lib.decDigits (0 : Int).natAbs = [48] by rw [Lib.decDigits]; simp]; rfl, Below.refl _ _⟩
  obtain ⟨M, hM⟩ : ∃ M, Lib.decDigits n.natAbs = M := ⟨_, rfl⟩
  have HM := hide (show dgt n.natAbs [] = M by rw [dgt_is _ _ (by omega), List.append_nil, hM])
  rw [hM]
  clear hM
  have d0 : (n == 0) = false := by simpa using hn
  go_enter Tryz.func92, Tryz.ntmps92
  go_wp2_with fail
  go_loopw [0, 3] (fun q v w' => ∃ (k : Int) (O : List UInt8), q = .int .i64 k ∧ v = .string ⟨O.toArray⟩ ∧ -9223372036854775808 ≤ k ∧ k ≤ 9223372036854775807 ∧ 2 * O.length ≤ 9223372036854775820 ∧ (k ≠ 0 → 2 * O.length + k.natAbs ≤ 9223372036854775809) ∧ Hid (dgt k.natAbs O = M) ∧ Hid (Below w.heap.size w w')) (fun q _ _ => (intOf q).natAbs)
  case atStart => exact ⟨n, [], rfl, rfl, h0, h1, by simp, fun _ => by simp; omega, HM, hide (Below.refl _ _)⟩
  case round =>
    obtain ⟨k, O, rfl, rfl, hk0, hk1, hL, hL2, hm, hb⟩ := hrel
    by_cases hk : k = 0
    · subst hk
      have eM := hide (show O = M by rw [← unhide hm]; exact (dgt_zero O).symm)
      clear hL2
      go_wp2_with fail
      go_ret
      exact ⟨by rw [← unhide eM]; rfl, unhide hb⟩
    · have hL3 := hL2 hk
      obtain ⟨R, hR⟩ : ∃ R, k.tmod 10 = R := ⟨_, rfl⟩
      obtain ⟨Q, hQ⟩ : ∃ Q, k.tdiv 10 = Q := ⟨_, rfl⟩
      have eR : R.natAbs = k.natAbs % 10 := by rw [← hR, Int.natAbs_tmod]; rfl
      have eQ : Q.natAbs = k.natAbs / 10 := by rw [← hQ, Int.natAbs_tdiv]; rfl
      obtain ⟨c, hc⟩ : ∃ c, UInt8.ofNat (48 + k.natAbs % 10) = c := ⟨_, rfl⟩
      have st := hide (show dgt Q.natAbs (c :: O) = M by rw [← unhide hm, eQ, dgt_step (n := k.natAbs) (by omega), hc])
      have hcn : c.toNat = 48 + R.natAbs := by rw [← hc, UInt8.toNat_ofNat', eR]; omega
      have hQ0 : -9223372036854775808 ≤ Q := by omega
      have hQ1 : Q ≤ 9223372036854775807 := by omega
      have e4 : IntKind.i64.wrap Q = Q := by rw [IntKind.wrap_i64]; omega
      have cv : (convert 22 9 (.slice (some ⟨wr.heap.size, 0, none⟩) 1 1)).run Tryz.prog (wr.alloc (.cells #[.int .u8 (c.toNat : Int)] 5)) = .ok (.string ⟨#[c]⟩) (wr.alloc (.cells #[.int .u8 (c.toNat : Int)] 5)) := conv_own (own_new wr c)
      have ap := hide (app_one c O)
      have hOz : (⟨O.toArray⟩ : ByteArray).size = O.length := by show O.toArray.size = _; simp
      have stO : Hid (∀ X : ByteArray, X = ⟨(c :: O).toArray⟩ → Value.string X = .string ⟨(c :: O).toArray⟩) := hide (fun X h => by rw [h])
      have R9 : R.natAbs ≤ 9 := by omega
      obtain ⟨OB, hOB⟩ : ∃ OB : ByteArray, OB = ⟨O.toArray⟩ := ⟨_, rfl⟩
      rw [← hOB] at hOz ap
      have q1 : ¬ 9223372036854775806 < OB.size := by omega
      have q2 : OB.size ≤ 9223372036854775806 := by omega
      have q3 : ¬ 9223372036854775807 < 1 + OB.size := by omega
      have q4 : 1 + OB.size ≤ 9223372036854775807 := by omega
      have HOB := hide hOB
      rw [← hOB]
      clear hOB hc eR hL2
      have B2 := hide (bAl (unhide hb) (.cells #[.int .u8 (c.toNat : Int)] 5))
      by_cases hneg : R < 0
      · have hcc : (48 : Int) + -R = (c.toNat : Int) := by omega
        have e5 : IntKind.i64.wrap (-R) = -R := by rw [IntKind.wrap_i64]; omega
        clear hcn
        go_wp2_with fail
        refine ⟨⟨Q, c :: O, rfl, ?_, hQ0, hQ1, by simp; omega, fun _ => by simp; omega, st, B2⟩, by simp [intOf]; omega⟩
        rw [unhide ap]
      · have hcc : (48 : Int) + R = (c.toNat : Int) := by omega
        clear hcn
        go_wp2_with fail
        refine ⟨⟨Q, c :: O, rfl, ?_, hQ0, hQ1, by simp; omega, fun _ => by simp; omega, st, B2⟩, by simp [intOf]; omega⟩
        rw [unhide ap]
end Go.Proofs.YtdflnjjomljgmaaGreatDoor
/- spec.l1Num; quoted texts: spec.l1Quoted, impl.quotedText. -/
namespace Go.Proofs.YtdflnjjomljgmaaGreatDoor
open Go.RowKit

set_option maxHeartbeats 400000 in
theorem l1Num_any (n : Int) (w : World) (h0 : -9223372036854775808 ≤ n) (h1 : n ≤ 9223372036854775807) :
    Calls Tryz.prog 90 #[.int .i64 n] w fun e w' => e = .returned (.string ⟨(Lib.itoa n).toArray⟩) ∧ Below w.heap.size w w' := by
  have q := hide (fun w => l1Size_any n w h0 h1)
  have hlen := Lib.itoa_length_le n h0 h1
  by_cases hn : n < 0
  · have e1 : Lib.itoa n = 45 :: Lib.decDigits n.natAbs := by unfold Lib.itoa; rw [if_pos hn]
    rw [e1] at hlen ⊢
    have ap := hide (app_one 45 (Lib.decDigits n.natAbs))
    have hz : (⟨(Lib.decDigits n.natAbs).toArray⟩ : ByteArray).size ≤ 21 := by show (Lib.decDigits n.natAbs).toArray.size ≤ _; simp at hlen ⊢; omega
    rw [← unhide ap]
    generalize (⟨(Lib.decDigits n.natAbs).toArray⟩ : ByteArray) = X at q hz
    have q1 : ¬ 9223372036854775806 < X.size := by omega
    have q2 : X.size ≤ 9223372036854775806 := by omega
    have q3 : ¬ 9223372036854775807 < 1 + X.size := by omega
    have q4 : 1 + X.size ≤ 9223372036854775807 := by omega
    clear ap e1 hlen
    go_enter Tryz.func90, Tryz.ntmps90
    go_wp2_with fail
    refine (unhide q _).mono ?_
    rintro e w1 ⟨rfl, hb⟩
    go_wp2_with fail
    go_ret
    exact ⟨rfl, hb⟩
  · have e1 : Lib.itoa n = Lib.decDigits n.natAbs := by unfold Lib.itoa; rw [if_neg hn]; congr 1; omega
    rw [e1]
    generalize (⟨(Lib.decDigits n.natAbs).toArray⟩ : ByteArray) = X at q
    clear hlen e1
    go_enter Tryz.func90, Tryz.ntmps90
    go_wp2_with fail
    refine (unhide q _).mono ?_
    rintro e w1 ⟨rfl, hb⟩
    go_wp2_with fail
    go_ret
    exact ⟨rfl, hb⟩

/-- A byte within quotes. -/
def qb (c : UInt8) : List UInt8 := if c = 34 ∨ c = 92 then [92, c] else [c]
def qs (t : List UInt8) : List UInt8 := t.flatMap qb
def quo (t : List UInt8) : List UInt8 := 34 :: (qs t ++ [34])
theorem qs_snoc (t : List UInt8) (c : UInt8) : qs (t ++ [c]) = qs t ++ qb c := by simp [qs]
theorem own_snocU {w' : World} {base : Nat} {v' : Value} {pre : List UInt8} {c : UInt8} (h : w'.ownsRow base 5 1 v' (pre.length + 1) (pre.map byteV ++ [byteV c])) : w'.ownsRow base 5 1 v' (pre ++ [c]).length ((pre ++ [c]).map byteV) := by
  simpa using h
theorem take_at (s : ByteArray) (k : Nat) (h : k < s.size) : s.data.toList.take (k + 1) = s.data.toList.take k ++ [s[k]] := by
  rw [List.take_succ_eq_append_getElem (by simpa using h)]; rfl
theorem info_u8 : (Tryz.prog.info? 5).map (fun i => (i.zero, i.size, i.bytes)) = some (some (.int .u8 0), 1, 1) := by kernel_rfl
theorem u8_is {c : UInt8} {n : Nat} (hn : n < 256) : ((c.toNat : Int) == (n : Int)) = decide (c = UInt8.ofNat n) := by
  rw [Bool.eq_iff_iff]
  simp only [beq_iff_eq, decide_eq_true_eq]
  constructor
  · intro h
    apply UInt8.toNat_inj.1
    rw [UInt8.toNat_ofNat']
    omega
  · intro h
    rw [h, UInt8.toNat_ofNat']
    omega

set_option maxRecDepth 8000 in
set_option maxHeartbeats 2000000 in
theorem l1Quoted_any (s : ByteArray) (w : World) (hs : s.size ≤ 200) :
    Calls Tryz.prog 91 #[.string s] w fun e w' => e = .returned (.string ⟨(quo s.data.toList).toArray⟩) ∧ Below w.heap.size w w' := by
  obtain ⟨i0, hi, hz0, hz1, hz2⟩ := info_parts info_u8
  have O0 := hide (own_new w 34)
  go_enter Tryz.func91, Tryz.ntmps91
  go_wp2_with fail
  go_loopw [3, 4] (fun v i w' => ∃ (k : Nat) (pre : List UInt8), k ≤ s.size ∧ pre.length ≤ 2 * k + 1 ∧ i = .int .i64 k ∧ Hid (w'.ownsRow w.heap.size 5 1 v pre.length (pre.map byteV)) ∧ Hid (Below w.heap.size w w') ∧ Hid (pre = 34 :: qs (s.data.toList.take k))) (fun _ i _ => s.size - (intOf i).toNat)
  case atStart => exact ⟨0, [34], Nat.zero_le _, by simp, rfl, O0, hide (bAl (Below.refl _ _) _), hide rfl⟩
  case round =>
    obtain ⟨k, pre, hk, hpre, rfl, hown, hb, hl⟩ := hrel
    by_cases hlt : k < s.size
    · have ed := hide (take_at s k hlt)
      obtain ⟨c, hc⟩ : ∃ c, s[k] = c := ⟨_, rfl⟩
      rw [hc] at ed
      have e34 : ((c.toNat : Int) == 34) = decide (c = 34) := u8_is (n := 34) (by decide)
      have e92 : ((c.toNat : Int) == 92) = decide (c = 92) := u8_is (n := 92) (by decide)
      by_cases hq : c = 34 ∨ c = 92
      · have st := hide (show pre ++ [92] ++ [c] = 34 :: qs (s.data.toList.take (k + 1)) by
          rw [unhide ed, qs_snoc, unhide hl, qb, if_pos hq]; simp)
        by_cases h34 : c = 34
        · rw [decide_eq_true h34] at e34
          clear hq h34 e92
          go_wp2_with (first
            | (at_builtin; refine wpList_append_own_at _ rfl _ _ 22 rfl w.heap.size 5 i0 (.int .u8 0) 1 1 Tryz.underlying22 hi hz0 hz1 hz2 rfl (by decide) _ _ _ rfl ((unhide hown).alloc _) ⟨_, 0, none⟩ 1 1 [byteV 92] rfl rfl (cell_one_new _ _ _) (fun x hx => by simp at hx; subst hx; rfl) (by unfold maxLen; omega) (by omega) (by have := (unhide hb).size; simp; omega) ?_; intro v2 w2 hown1 hgrow1 _ hat1; have own2 := hide (own_snocU hown1); have b2 := hide ((bAl (unhide hb) _).grown hgrow1 (by have := (unhide hb).size; simp; omega) (fun j hj => ((unhide hown).lt j hj).1)); clear hown1 hgrow1 hat1)
            | (at_builtin; refine wpList_append_own_at _ rfl _ _ 22 rfl w.heap.size 5 i0 (.int .u8 0) 1 1 Tryz.underlying22 hi hz0 hz1 hz2 rfl (by decide) _ _ _ rfl ((unhide own2).alloc _) ⟨_, 0, none⟩ 1 1 [byteV c] rfl rfl (cell_one_new _ _ _) (fun x hx => by simp at hx; subst hx; rfl) (by simp; unfold maxLen; omega) (by simp; omega) (by have := (unhide b2).size; simp; omega) ?_; intro v3 w3 hown3 hgrow3 _ hat3))
          exact ⟨⟨k + 1, pre ++ [92] ++ [c], by omega, by simp; omega, by go_num, hide (own_snocU hown3), hide ((bAl (unhide b2) _).grown hgrow3 (by have := (unhide b2).size; simp; omega) (fun j hj => ((unhide own2).lt j hj).1)), st⟩, by simp [intOf]; omega⟩
        · rw [decide_eq_false h34] at e34
          rw [decide_eq_true (hq.resolve_left h34)] at e92
          clear hq h34
          go_wp2_with (first
            | (at_builtin; refine wpList_append_own_at _ rfl _ _ 22 rfl w.heap.size 5 i0 (.int .u8 0) 1 1 Tryz.underlying22 hi hz0 hz1 hz2 rfl (by decide) _ _ _ rfl ((unhide hown).alloc _) ⟨_, 0, none⟩ 1 1 [byteV 92] rfl rfl (cell_one_new _ _ _) (fun x hx => by simp at hx; subst hx; rfl) (by unfold maxLen; omega) (by omega) (by have := (unhide hb).size; simp; omega) ?_; intro v2 w2 hown1 hgrow1 _ hat1; have own2 := hide (own_snocU hown1); have b2 := hide ((bAl (unhide hb) _).grown hgrow1 (by have := (unhide hb).size; simp; omega) (fun j hj => ((unhide hown).lt j hj).1)); clear hown1 hgrow1 hat1)
            | (at_builtin; refine wpList_append_own_at _ rfl _ _ 22 rfl w.heap.size 5 i0 (.int .u8 0) 1 1 Tryz.underlying22 hi hz0 hz1 hz2 rfl (by decide) _ _ _ rfl ((unhide own2).alloc _) ⟨_, 0, none⟩ 1 1 [byteV c] rfl rfl (cell_one_new _ _ _) (fun x hx => by simp at hx; subst hx; rfl) (by simp; unfold maxLen; omega) (by simp; omega) (by have := (unhide b2).size; simp; omega) ?_; intro v3 w3 hown3 hgrow3 _ hat3))
          exact ⟨⟨k + 1, pre ++ [92] ++ [c], by omega, by simp; omega, by go_num, hide (own_snocU hown3), hide ((bAl (unhide b2) _).grown hgrow3 (by have := (unhide b2).size; simp; omega) (fun j hj => ((unhide own2).lt j hj).1)), st⟩, by simp [intOf]; omega⟩
      · have st := hide (show pre ++ [c] = 34 :: qs (s.data.toList.take (k + 1)) by
          rw [unhide ed, qs_snoc, unhide hl, qb, if_neg hq]; simp)
        rw [decide_eq_false (fun h => hq (.inl h))] at e34
        rw [decide_eq_false (fun h => hq (.inr h))] at e92
        clear hq
        go_wp2_with (at_builtin; refine wpList_append_own_at _ rfl _ _ 22 rfl w.heap.size 5 i0 (.int .u8 0) 1 1 Tryz.underlying22 hi hz0 hz1 hz2 rfl (by decide) _ _ _ rfl ((unhide hown).alloc _) ⟨_, 0, none⟩ 1 1 [byteV c] rfl rfl (cell_one_new _ _ _) (fun x hx => by simp at hx; subst hx; rfl) (by unfold maxLen; omega) (by omega) (by have := (unhide hb).size; simp; omega) ?_; intro v3 w3 hown3 hgrow3 _ hat3)
        exact ⟨⟨k + 1, pre ++ [c], by omega, by simp; omega, by go_num, hide (own_snocU hown3), hide ((bAl (unhide hb) _).grown hgrow3 (by have := (unhide hb).size; simp; omega) (fun j hj => ((unhide hown).lt j hj).1)), st⟩, by simp [intOf]; omega⟩
    · have e : k = s.size := by omega
      have st := hide (show pre ++ [34] = quo s.data.toList by
        rw [unhide hl, e, List.take_of_length_le (by simp)]; rfl)
      go_wp2_with (at_builtin; refine wpList_append_own_at _ rfl _ _ 22 rfl w.heap.size 5 i0 (.int .u8 0) 1 1 Tryz.underlying22 hi hz0 hz1 hz2 rfl (by decide) _ _ _ rfl ((unhide hown).alloc _) ⟨_, 0, none⟩ 1 1 [byteV 34] rfl rfl (cell_one_new _ _ _) (fun x hx => by simp at hx; subst hx; rfl) (by unfold maxLen; omega) (by omega) (by have := (unhide hb).size; simp; omega) ?_; intro v3 w3 hown3 hgrow3 _ hat3; have cv := conv_own (own_snocU hown3))
      have b3 := hide ((bAl (unhide hb) _).grown hgrow3 (by have := (unhide hb).size; simp; omega) (fun j hj => ((unhide hown).lt j hj).1))
      go_ret
      exact ⟨by rw [← unhide st]; rfl, unhide b3⟩

theorem cells_grown {w w' : World} {o : Obj} {B : Nat} {s : ByteArray} {row : Option Nat} (h : ∀ j (h : j < s.size), w.cell? ⟨B, j, none⟩ = some (.int .u8 (s[j].toNat : Int))) (hg : (w.alloc o).grownBy w' row) (hne : row ≠ some B) :
    ∀ j (h : j < s.size), w'.cell? ⟨B, j, none⟩ = some (.int .u8 (s[j].toNat : Int)) := fun j hj => by
  have z : B < w.heap.size := World.block_lt_of_cell? w ⟨B, j, none⟩ (h j hj)
  rw [World.cell?_of_block (a := ⟨B, j, none⟩) (hg.block B (by simp; omega) (fun e => hne e.symm)), (bAl (Below.refl w.heap.size w) o).cell (p := ⟨B, j, none⟩) z]
  exact h j hj
theorem nb_grown {w : World} {o : Obj} {B : Nat} {v v' : Value} (h : v.ownBlock ≠ some B) (hat : v'.ownBlock = v.ownBlock ∨ v'.ownBlock = some (w.alloc o).heap.size) (hz : B < w.heap.size) : v'.ownBlock ≠ some B := by
  rcases hat with e | e
  · rw [e]; exact h
  · rw [e]; intro h; simp at h; omega
theorem own_keepT {w w' : World} {base n e size : Nat} {v : Value} {xs : List Value} (h : w.ownsRow base e size v n xs) (hb : Below w.heap.size w w') : w'.ownsRow base e size v n xs := by
  refine ⟨h.1, h.2.imp_right ?_⟩
  rintro ⟨g, cap, cur, e', h1, hh, r⟩
  have hl : g < w.heap.size := (Array.getElem?_eq_some_iff.1 hh).1
  exact ⟨g, cap, cur, e', h1, by rw [hb.block g hl]; exact hh, r⟩

set_option maxRecDepth 8000 in
set_option maxHeartbeats 2000000 in
theorem quotedText_any (s : ByteArray) (w : World) (hs : s.size ≤ 200) :
    Calls Tryz.prog 136 #[.string s] w fun e w' => e = .returned (.string ⟨(quo s.data.toList).toArray⟩) ∧ Below w.heap.size w w' := by
  obtain ⟨i0, hi, hz0, hz1, hz2⟩ := info_parts info_u8
  have O0 := hide (own_new w 34)
  obtain ⟨cap, w1, hrun, hbel, hcell⟩ := conv_bytes s (w.alloc (.cells #[.int .u8 34] 5))
  have O1 := hide (own_keepT (unhide O0) hbel)
  have B1 := hide (bTr (bAl (Below.refl w.heap.size w) (.cells #[.int .u8 34] 5)) hbel)
  rw [World.size_alloc] at hcell
  have HC := hide hcell
  clear hcell hbel O0
  go_enter Tryz.func136, Tryz.ntmps136
  go_wp2_with fail
  go_loopw [3, 10] (fun v i w' => ∃ (k : Nat) (pre : List UInt8), k ≤ s.size ∧ pre.length ≤ 2 * k + 1 ∧ i = .int .i64 k ∧ Hid (w'.ownsRow w.heap.size 5 1 v pre.length (pre.map byteV)) ∧ Hid (Below w.heap.size w w') ∧ Hid (pre = 34 :: qs (s.data.toList.take k)) ∧ Hid (∀ j (h : j < s.size), w'.cell? ⟨w.heap.size + 1, j, none⟩ = some (.int .u8 (s[j].toNat : Int))) ∧ Hid (v.ownBlock ≠ some (w.heap.size + 1))) (fun _ i _ => s.size - (intOf i).toNat)
  case atStart => exact ⟨0, [34], Nat.zero_le _, by simp, rfl, O1, B1, hide rfl, HC, hide (by intro h; simp [Value.ownBlock] at h)⟩
  case round =>
    obtain ⟨k, pre, hk, hpre, rfl, hown, hb, hl, hK, hnB⟩ := hrel
    by_cases hlt : k < s.size
    · have ed := hide (take_at s k hlt)
      have ck := unhide hK k hlt
      have zB := hide (World.block_lt_of_cell? wr ⟨w.heap.size + 1, k, none⟩ ck)
      obtain ⟨c, hc⟩ : ∃ c, s[k] = c := ⟨_, rfl⟩
      rw [hc] at ed ck
      have e34 : ((c.toNat : Int) == 34) = decide (c = 34) := u8_is (n := 34) (by decide)
      have e92 : ((c.toNat : Int) == 92) = decide (c = 92) := u8_is (n := 92) (by decide)
      by_cases hq : c = 34 ∨ c = 92
      · have st := hide (show pre ++ [92] ++ [c] = 34 :: qs (s.data.toList.take (k + 1)) by
          rw [unhide ed, qs_snoc, unhide hl, qb, if_pos hq]; simp)
        by_cases h34 : c = 34
        · rw [decide_eq_true h34] at e34
          clear hq h34 e92
          go_wp2_with (first
            | (at_builtin; refine wpList_append_own_at _ rfl _ _ 22 rfl w.heap.size 5 i0 (.int .u8 0) 1 1 Tryz.underlying22 hi hz0 hz1 hz2 rfl (by decide) _ _ _ rfl ((unhide hown).alloc _) ⟨_, 0, none⟩ 1 1 [byteV 92] rfl rfl (cell_one_new _ _ _) (fun x hx => by simp at hx; subst hx; rfl) (by unfold maxLen; omega) (by omega) (by have := (unhide hb).size; simp; omega) ?_; intro v2 w2 hown1 hgrow1 _ hat1; have own2 := hide (own_snocU hown1); have b2 := hide ((bAl (unhide hb) _).grown hgrow1 (by have := (unhide hb).size; simp; omega) (fun j hj => ((unhide hown).lt j hj).1)); have K2 := hide (cells_grown (unhide hK) hgrow1 (unhide hnB)); have n2 := hide (nb_grown (unhide hnB) hat1 (unhide zB)); have zB2 := hide (World.block_lt_of_cell? w2 ⟨w.heap.size + 1, k, none⟩ (unhide K2 k hlt)); clear hown1 hgrow1 hat1)
            | (at_builtin; refine wpList_append_own_at _ rfl _ _ 22 rfl w.heap.size 5 i0 (.int .u8 0) 1 1 Tryz.underlying22 hi hz0 hz1 hz2 rfl (by decide) _ _ _ rfl ((unhide own2).alloc _) ⟨_, 0, none⟩ 1 1 [byteV c] rfl rfl (cell_one_new _ _ _) (fun x hx => by simp at hx; subst hx; rfl) (by simp; unfold maxLen; omega) (by simp; omega) (by have := (unhide b2).size; simp; omega) ?_; intro v3 w3 hown3 hgrow3 _ hat3))
          exact ⟨⟨k + 1, pre ++ [92] ++ [c], by omega, by simp; omega, by go_num, hide (own_snocU hown3), hide ((bAl (unhide b2) _).grown hgrow3 (by have := (unhide b2).size; simp; omega) (fun j hj => ((unhide own2).lt j hj).1)), st, hide (cells_grown (unhide K2) hgrow3 (unhide n2)), hide (nb_grown (unhide n2) hat3 (unhide zB2))⟩, by simp [intOf]; omega⟩
        · rw [decide_eq_false h34] at e34
          rw [decide_eq_true (hq.resolve_left h34)] at e92
          clear hq h34
          go_wp2_with (first
            | (at_builtin; refine wpList_append_own_at _ rfl _ _ 22 rfl w.heap.size 5 i0 (.int .u8 0) 1 1 Tryz.underlying22 hi hz0 hz1 hz2 rfl (by decide) _ _ _ rfl ((unhide hown).alloc _) ⟨_, 0, none⟩ 1 1 [byteV 92] rfl rfl (cell_one_new _ _ _) (fun x hx => by simp at hx; subst hx; rfl) (by unfold maxLen; omega) (by omega) (by have := (unhide hb).size; simp; omega) ?_; intro v2 w2 hown1 hgrow1 _ hat1; have own2 := hide (own_snocU hown1); have b2 := hide ((bAl (unhide hb) _).grown hgrow1 (by have := (unhide hb).size; simp; omega) (fun j hj => ((unhide hown).lt j hj).1)); have K2 := hide (cells_grown (unhide hK) hgrow1 (unhide hnB)); have n2 := hide (nb_grown (unhide hnB) hat1 (unhide zB)); have zB2 := hide (World.block_lt_of_cell? w2 ⟨w.heap.size + 1, k, none⟩ (unhide K2 k hlt)); clear hown1 hgrow1 hat1)
            | (at_builtin; refine wpList_append_own_at _ rfl _ _ 22 rfl w.heap.size 5 i0 (.int .u8 0) 1 1 Tryz.underlying22 hi hz0 hz1 hz2 rfl (by decide) _ _ _ rfl ((unhide own2).alloc _) ⟨_, 0, none⟩ 1 1 [byteV c] rfl rfl (cell_one_new _ _ _) (fun x hx => by simp at hx; subst hx; rfl) (by simp; unfold maxLen; omega) (by simp; omega) (by have := (unhide b2).size; simp; omega) ?_; intro v3 w3 hown3 hgrow3 _ hat3))
          exact ⟨⟨k + 1, pre ++ [92] ++ [c], by omega, by simp; omega, by go_num, hide (own_snocU hown3), hide ((bAl (unhide b2) _).grown hgrow3 (by have := (unhide b2).size; simp; omega) (fun j hj => ((unhide own2).lt j hj).1)), st, hide (cells_grown (unhide K2) hgrow3 (unhide n2)), hide (nb_grown (unhide n2) hat3 (unhide zB2))⟩, by simp [intOf]; omega⟩
      · have st := hide (show pre ++ [c] = 34 :: qs (s.data.toList.take (k + 1)) by
          rw [unhide ed, qs_snoc, unhide hl, qb, if_neg hq]; simp)
        rw [decide_eq_false (fun h => hq (.inl h))] at e34
        rw [decide_eq_false (fun h => hq (.inr h))] at e92
        clear hq
        go_wp2_with (at_builtin; refine wpList_append_own_at _ rfl _ _ 22 rfl w.heap.size 5 i0 (.int .u8 0) 1 1 Tryz.underlying22 hi hz0 hz1 hz2 rfl (by decide) _ _ _ rfl ((unhide hown).alloc _) ⟨_, 0, none⟩ 1 1 [byteV c] rfl rfl (cell_one_new _ _ _) (fun x hx => by simp at hx; subst hx; rfl) (by unfold maxLen; omega) (by omega) (by have := (unhide hb).size; simp; omega) ?_; intro v3 w3 hown3 hgrow3 _ hat3)
        exact ⟨⟨k + 1, pre ++ [c], by omega, by simp; omega, by go_num, hide (own_snocU hown3), hide ((bAl (unhide hb) _).grown hgrow3 (by have := (unhide hb).size; simp; omega) (fun j hj => ((unhide hown).lt j hj).1)), st, hide (cells_grown (unhide hK) hgrow3 (unhide hnB)), hide (nb_grown (unhide hnB) hat3 (unhide zB))⟩, by simp [intOf]; omega⟩
    · have e : k = s.size := by omega
      have st := hide (show pre ++ [34] = quo s.data.toList by
        rw [unhide hl, e, List.take_of_length_le (by simp)]; rfl)
      go_wp2_with (at_builtin; refine wpList_append_own_at _ rfl _ _ 22 rfl w.heap.size 5 i0 (.int .u8 0) 1 1 Tryz.underlying22 hi hz0 hz1 hz2 rfl (by decide) _ _ _ rfl ((unhide hown).alloc _) ⟨_, 0, none⟩ 1 1 [byteV 34] rfl rfl (cell_one_new _ _ _) (fun x hx => by simp at hx; subst hx; rfl) (by unfold maxLen; omega) (by omega) (by have := (unhide hb).size; simp; omega) ?_; intro v3 w3 hown3 hgrow3 _ hat3; have cv := conv_own (own_snocU hown3))
      have b3 := hide ((bAl (unhide hb) _).grown hgrow3 (by have := (unhide hb).size; simp; omega) (fun j hj => ((unhide hown).lt j hj).1))
      go_ret
      exact ⟨by rw [← unhide st]; rfl, unhide b3⟩
end Go.Proofs.YtdflnjjomljgmaaGreatDoor
