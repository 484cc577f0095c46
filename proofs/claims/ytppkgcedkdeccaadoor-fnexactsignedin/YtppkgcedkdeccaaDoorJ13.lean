/- DArmJ, QQuo, KHa, one behind the other. -/
import Derived.Test.YtppkgcedkdeccaaDoorJ12
import Derived.Test.YtppkgcedkdeccaaDoorJ10
import Derived.Maps.AppendAt
import Derived.Test.YtppkgcedkdeccaaDoorJ11
/- impl.Armor. -/
namespace Go.Proofs.YtppkgcedkdeccaaDoor.D
set_option maxRecDepth 20000
open Go.RowKit

theorem arm_apps (q : Nat) : ∀ (p r : List UInt8), p.length = 5 * q → arm (p ++ r) = arm p ++ arm r := by
  induction q with
  | zero => intro p r h; obtain rfl : p = [] := List.length_eq_zero_iff.1 (by omega)
            simp [arm_nil]
  | succ q ih =>
    intro p r h
    have e : p = p.take 5 ++ p.drop 5 := (List.take_append_drop 5 p).symm
    have h5 : (p.take 5).length = 5 := by rw [List.length_take]; omega
    have hd : (p.drop 5).length = 5 * q := by rw [List.length_drop]; omega
    rw [e, List.append_assoc, arm_app _ _ h5, ih _ _ hd, arm_app _ _ h5, List.append_assoc]
/-- Part q of the bytes. -/
def partL (l : List UInt8) (q : Nat) : List UInt8 := (l.drop (5 * q)).take 5
theorem take_part (l : List UInt8) (q : Nat) : l.take (5 * (q + 1)) = l.take (5 * q) ++ partL l q := by
  rw [show 5 * (q + 1) = 5 * q + 5 by omega, List.take_add]; rfl
theorem arm_part (l : List UInt8) (q : Nat) (h : 5 * q ≤ l.length) : arm (l.take (5 * (q + 1))) = arm (l.take (5 * q)) ++ arm (partL l q) := by
  rw [take_part, arm_apps q _ _ (by rw [List.length_take]; omega)]
theorem partL_len (l : List UInt8) (q : Nat) : (partL l q).length = min (5 * q + 5) l.length - 5 * q := by
  unfold partL; rw [List.length_take, List.length_drop]; omega
theorem partL_get (l : List UInt8) (q i : Nat) (h : i < (partL l q).length) (h2 : 5 * q + i < l.length) : (partL l q)[i] = l[5 * q + i] := by
  simp [partL]
theorem part_sl {w : World} {b off B : Nat} {l : List UInt8} (hB : b < B) (hz : b < w.heap.size) (hc : ∀ i (h : i < l.length), w.cell? ⟨b, off + i, none⟩ = some (byteV l[i])) (q : Nat) :
    SlB w B (some ⟨b, off + 5 * q, none⟩) (min (5 * q + 5) l.length - 5 * q) (partL l q) := by
  refine ⟨(partL_len l q).symm, .inr ⟨b, off + 5 * q, rfl, hB, hz, fun i hi => ?_⟩⟩
  have h2 : 5 * q + i < l.length := by rw [partL_len] at hi; omega
  rw [partL_get l q i hi h2, Nat.add_assoc]
  exact hc _ h2
theorem row_newsJ {w : World} {b : Nat} {l : List UInt8} (h : RowIs w b (cellsOf l) 5) : ∀ j u, (l.map byteV)[j]? = some u → w.cell? ((⟨b, 0, none⟩ : Addr).add j) = some u := by
  intro j u hj
  have e : (⟨b, 0, none⟩ : Addr).add j = ⟨b, j, none⟩ := by simp [Addr.add]; exact Eq.symm
  rw [e, h.cell]
  simpa [cellsOf] using hj
theorem one_cellJ {l : List UInt8} : ∀ u ∈ l.map byteV, u.oneCell' = true := by
  intro u hu
  obtain ⟨c, _, rfl⟩ := List.mem_map.1 hu
  rfl

theorem parts_none (a : Option Addr) (cap : Nat) (w : World) :
    Calls Tryd.prog 88 #[.slice a 0 cap, .int .i64 5] w fun e w' => e = .returned (.slice none 0 0) ∧ Below w.heap.size w w' := by
  go_enter Tryd.func88, Tryd.ntmps88
  go_wp2_with fail
  go_loopw [5, 6] (fun v i w' => i = .int .i64 0 ∧ v = .slice none 0 0 ∧ w = w') (fun _ _ _ => 0)
  case atStart => exact ⟨rfl, rfl, rfl⟩
  case round =>
    obtain ⟨rfl, rfl, rfl⟩ := hrel
    go_wp2_with fail
    go_ret
    exact ⟨rfl, Below.refl _ _⟩

set_option maxHeartbeats 2000000 in
theorem iArmor_any (a : Option Addr) (len cap : Nat) (l : List UInt8) (w : World) (hl : len ≤ maxLen) (hc : len ≤ cap) (hcm : cap ≤ maxLen) (hs : SlB w w.heap.size a len l) :
    Calls Tryd.prog 83 #[.slice a len cap] w fun e w' => e = .returned (.string ⟨(armD l).toArray⟩) ∧ Below w.heap.size w w' := by
  unfold maxLen at hl
  have hll := hide hs.1
  by_cases h : len ≤ 20000
  · have hd : armD l = arm l := by unfold armD; rw [if_pos (by rw [← unhide hll]; exact h)]
    rw [hd]
    clear hd
    rcases Nat.eq_zero_or_pos len with h0 | h0
    · subst h0
      have el : l = [] := List.length_eq_zero_iff.1 (unhide hll).symm
      subst el
      have cv : (convert 22 9 (.slice none 0 0)).run Tryd.prog = fun w => .ok (.string ⟨#[]⟩) w := by
        funext w
        exact Go.Lib.run_convert_nil_bytes w 22 9 5 0 Tryd.underlying22 Tryd.underlying5 Tryd.underlying9
      clear hs
      go_enter Tryd.func83, Tryd.ntmps83
      go_wp2_with fail
      refine (parts_none a cap _).mono ?_
      rintro e w1 ⟨rfl, hb1⟩
      go_wp2_with fail
      go_loopw [3, 5, 12] (fun v _ i w' => i = .int .i64 0 ∧ v = .slice none 0 0 ∧ w1 = w') (fun _ _ _ _ => 0)
      case atStart => exact ⟨rfl, rfl, rfl⟩
      case round =>
        obtain ⟨rfl, rfl, rfl⟩ := hrel
        go_wp2_with fail
        go_ret
        exact ⟨rfl, hb1⟩
    obtain ⟨b, off, rfl, _, hz, hrow⟩ := hs.at h0
    obtain ⟨i0, hi, hz0, hz1, hz2⟩ := info_parts info_u8
    have HR := hide (fun q => part_sl (B := w.heap.size) hz hz hrow q)
    clear hrow hs
    go_enter Tryd.func83, Tryd.ntmps83
    go_wp2_with fail
    refine (dataParts_any b off len cap _ h hc hcm).mono ?_
    rintro e w1 ⟨v, rfl, hown1, hb1⟩
    rcases hown1.2 with ⟨_, e0⟩ | ⟨g, pc, cur, rfl, hg, hh, _, hpm, hsz, htk⟩
    · omega
    have hgr : RowIs w1 g cur 22 := hh
    have HG := hide hgr
    have HT := hide htk
    have HB1 := hide hb1
    have hgl : g < w1.heap.size := hgr.lt
    unfold maxLen at hpm
    clear hown1 hh hgr htk hb1
    go_wp2_with fail
    go_loopw [3, 5, 12] (fun v _ i w' => ∃ (q : Nat), q ≤ (len + 4) / 5 ∧ i = .int .i64 q ∧ Hid (w'.ownsRow w1.heap.size 5 1 v (arm (l.take (5 * q))).length ((arm (l.take (5 * q))).map byteV)) ∧ Hid (Below w1.heap.size w1 w')) (fun _ _ i _ => (len + 4) / 5 - (intOf i).toNat)
    case atStart => exact ⟨0, Nat.zero_le _, rfl, hide (by rw [Nat.mul_zero, List.take_zero, arm_nil]; exact World.ownsRow_nil _ _ _ _), hide (Below.refl _ _)⟩
    case round =>
      obtain ⟨q, hq, rfl, hown, hb⟩ := hrel
      by_cases hlt : q < (len + 4) / 5
      · have cq : wr.cell? ⟨g, q, none⟩ = some (partV b off len q) := by
          have h1 := (unhide HG).keepB (unhide hb) hgl
          rw [h1.cell, ← Array.getElem?_toList]
          have h2 : (partsV b off len ((len + 4) / 5))[q]? = some (partV b off len q) := by simp [partsV, hlt]
          rw [← unhide HT, List.getElem?_take] at h2
          split at h2
          · exact h2
          · cases h2
        unfold partV at cq
        have hsl := hide (((unhide HR q).keep (unhide HB1)).keepB ((unhide hb).mono (unhide HB1).size))
        rw [← unhide hll] at hsl
        have hst := hide (arm_part l q (by rw [← unhide hll]; omega))
        have hsm : (arm (partL l q)).length ≤ 8 := by rw [arm_len, partL_len]; unfold many; omega
        have hsm2 : (arm (l.take (5 * q))).length ≤ 40000 := by rw [arm_len, List.length_take, ← unhide hll]; unfold many; omega
        obtain ⟨m, hm⟩ : ∃ m, min (5 * q + 5) len - 5 * q = m := ⟨_, rfl⟩
        rw [hm] at cq hsl
        have hm5 : m ≤ 5 := by omega
        clear hm
        go_wp2_with fail
        refine (partLetters_any _ _ _ (partL l q) _ hm5 ((unhide hsl).mono (Nat.le_trans (unhide HB1).size (unhide hb).size))).mono ?_
        rintro e w2 ⟨⟨c2, rfl⟩, hr2, hb2⟩
        have hown2 := hide (own_keep (unhide hown) hb2)
        have hbel2 := hide (hb2.mono (unhide hb).size)
        have hz2' := hb2.size
        have hR2 := hide hr2
        have hzz := (unhide hb).size
        clear hr2 hb2
        go_wp2_with (at_builtin; refine wpList_append_own _ rfl _ _ 22 rfl w1.heap.size 5 i0 (.int .u8 0) 1 1 Tryd.underlying22 hi hz0 hz1 hz2 rfl (by decide) _ _ _ rfl (unhide hown2) ⟨_, 0, none⟩ _ _ ((arm (partL l q)).map byteV) rfl (by simp) (row_newsJ (unhide hR2)) one_cellJ (by unfold maxLen; omega) (by omega) (by omega) ?_; intro v' w3 hown3 hgrow3 _)
        exact ⟨⟨q + 1, by omega, by go_num, hide (by rw [unhide hst, List.length_append, List.map_append]; exact hown3), hide (((unhide hb).trans (unhide hbel2)).grown hgrow3 (by omega) (fun j hj => ((unhide hown2).lt j hj).1))⟩, by simp [intOf]; omega⟩
      · have e : l.take (5 * q) = l := List.take_of_length_le (by rw [← unhide hll]; omega)
        rw [e] at hown
        have cv := conv_own (unhide hown)
        go_wp2_with fail
        go_ret
        exact ⟨rfl, bTr (unhide HB1) (unhide hb)⟩
  · have hd : armD l = [] := by unfold armD; rw [if_neg (by rw [← unhide hll]; exact h)]
    rw [hd]
    clear hd
    go_enter Tryd.func83, Tryd.ntmps83
    go_wp2_with fail
    go_ret
    exact ⟨rfl, Below.refl _ _⟩
end Go.Proofs.YtppkgcedkdeccaaDoor.D
/- spec.l1Num; quoted texts: spec.l1Quoted, impl.quotedText. -/
namespace Go.Proofs.YtppkgcedkdeccaaDoor
open Go.RowKit

set_option maxHeartbeats 400000 in
theorem l1Num_any (n : Int) (w : World) (h0 : -9223372036854775808 ≤ n) (h1 : n ≤ 9223372036854775807) :
    Calls Tryd.prog 71 #[.int .i64 n] w fun e w' => e = .returned (.string ⟨(Lib.itoa n).toArray⟩) ∧ Below w.heap.size w w' := by
  have q := hide (fun w => l1Size_any n w h0 h1)
  have hlen := Lib.itoa_length_le n h0 h1
  by_cases hn : n < 0
  · have e1 : Lib.itoa n = 45 :: Lib.decDigits n.natAbs := by unfold Lib.itoa; rw [if_pos hn]
    rw [e1] at hlen ⊢
    have ap := hide (app_one 45 (Lib.decDigits n.natAbs))
    have hz : (⟨(Lib.decDigits n.natAbs).toArray⟩ : ByteArray).size ≤ 21 := by show (Lib.decDigits n.natAbs).toArray.size ≤ _; simp at hlen ⊢; omega
    rw [← unhide ap]
    generalize (⟨(Lib.decDigits n.natAbs).toArray⟩ : ByteArray) = X at q hz
    have q1 : ¬ 9223372036854775806 < X.size := by omega
    have q2 : X.size ≤ 9223372036854775806 := by omega
    have q3 : ¬ 9223372036854775807 < 1 + X.size := by omega
    have q4 : 1 + X.size ≤ 9223372036854775807 := by omega
    clear ap e1 hlen
    go_enter Tryd.func71, Tryd.ntmps71
    go_wp2_with fail
    refine (unhide q _).mono ?_
    rintro e w1 ⟨rfl, hb⟩
    go_wp2_with fail
    go_ret
    exact ⟨rfl, hb⟩
  · have e1 : Lib.itoa n = Lib.decDigits n.natAbs := by unfold Lib.itoa; rw [if_neg hn]; congr 1; omega
    rw [e1]
    generalize (⟨(Lib.decDigits n.natAbs).toArray⟩ : ByteArray) = X at q
    clear hlen e1
    go_enter Tryd.func71, Tryd.ntmps71
    go_wp2_with fail
    refine (unhide q _).mono ?_
    rintro e w1 ⟨rfl, hb⟩
    go_wp2_with fail
    go_ret
    exact ⟨rfl, hb⟩

/-- A byte within quotes. -/
def qb (c : UInt8) : List UInt8 := if c = 34 ∨ c = 92 then [92, c] else [c]
def qs (t : List UInt8) : List UInt8 := t.flatMap qb
def quo (t : List UInt8) : List UInt8 := 34 :: (qs t ++ [34])
theorem qs_snoc (t : List UInt8) (c : UInt8) : qs (t ++ [c]) = qs t ++ qb c := by simp [qs]
theorem own_snocU {w' : World} {base : Nat} {v' : Value} {pre : List UInt8} {c : UInt8} (h : w'.ownsRow base 5 1 v' (pre.length + 1) (pre.map byteV ++ [byteV c])) : w'.ownsRow base 5 1 v' (pre ++ [c]).length ((pre ++ [c]).map byteV) := by
  simpa using h
theorem take_at (s : ByteArray) (k : Nat) (h : k < s.size) : s.data.toList.take (k + 1) = s.data.toList.take k ++ [s[k]] := by
  rw [List.take_succ_eq_append_getElem (by simpa using h)]; rfl
theorem info_u8 : (Tryd.prog.info? 5).map (fun i => (i.zero, i.size, i.bytes)) = some (some (.int .u8 0), 1, 1) := by kernel_rfl
theorem u8_is {c : UInt8} {n : Nat} (hn : n < 256) : ((c.toNat : Int) == (n : Int)) = decide (c = UInt8.ofNat n) := by
  rw [Bool.eq_iff_iff]
  simp only [beq_iff_eq, decide_eq_true_eq]
  constructor
  · intro h
    apply UInt8.toNat_inj.1
    rw [UInt8.toNat_ofNat']
    omega
  · intro h
    rw [h, UInt8.toNat_ofNat']
    omega

theorem cells_grown {w w' : World} {o : Obj} {B : Nat} {s : ByteArray} {row : Option Nat} (h : ∀ j (h : j < s.size), w.cell? ⟨B, j, none⟩ = some (.int .u8 (s[j].toNat : Int))) (hg : (w.alloc o).grownBy w' row) (hne : row ≠ some B) :
    ∀ j (h : j < s.size), w'.cell? ⟨B, j, none⟩ = some (.int .u8 (s[j].toNat : Int)) := fun j hj => by
  have z : B < w.heap.size := World.block_lt_of_cell? w ⟨B, j, none⟩ (h j hj)
  rw [World.cell?_of_block (a := ⟨B, j, none⟩) (hg.block B (by simp; omega) (fun e => hne e.symm)), (bAl (Below.refl w.heap.size w) o).cell (p := ⟨B, j, none⟩) z]
  exact h j hj
theorem nb_grown {w : World} {o : Obj} {B : Nat} {v v' : Value} (h : v.ownBlock ≠ some B) (hat : v'.ownBlock = v.ownBlock ∨ v'.ownBlock = some (w.alloc o).heap.size) (hz : B < w.heap.size) : v'.ownBlock ≠ some B := by
  rcases hat with e | e
  · rw [e]; exact h
  · rw [e]; intro h; simp at h; omega
theorem own_keepT {w w' : World} {base n e size : Nat} {v : Value} {xs : List Value} (h : w.ownsRow base e size v n xs) (hb : Below w.heap.size w w') : w'.ownsRow base e size v n xs := by
  refine ⟨h.1, h.2.imp_right ?_⟩
  rintro ⟨g, cap, cur, e', h1, hh, r⟩
  have hl : g < w.heap.size := (Array.getElem?_eq_some_iff.1 hh).1
  exact ⟨g, cap, cur, e', h1, by rw [hb.block g hl]; exact hh, r⟩

end Go.Proofs.YtppkgcedkdeccaaDoor
/- HandleOf and ChallengeOf on both sides. -/
namespace Go.Proofs.YtppkgcedkdeccaaDoor.D
open Go.RowKit
set_option maxRecDepth 20000

/-- '[]byte(s)': a new row of the call's own, its cells the bytes of s. -/
theorem conv_bytes (s : ByteArray) (w : World) : ∃ cap w1, (convert 9 22 (.string s)).run Tryd.prog w = .ok (.slice (some ⟨w.heap.size, 0, none⟩) s.size cap) w1 ∧ Below w.heap.size w w1 ∧ SlB w1 w1.heap.size (some ⟨w.heap.size, 0, none⟩) s.size s.data.toList := by
  refine ⟨_, _, run_bytes_of_string (P := Tryd.prog) w 9 22 5 s Tryd.underlying9 Tryd.underlying22 Tryd.underlying5, ((Below.refl _ _).drew).alloc (Nat.le_refl _) _, ?_⟩
  have e : s.size = s.data.toList.length := by show s.data.size = _; simp
  refine ⟨e, .inr ⟨_, 0, rfl, by simp, by simp, ?_⟩⟩
  intro j h
  have h' : w.drew.heap.size = w.heap.size := rfl
  have h2 : j < s.data.size := by simpa using h
  rw [← h', Nat.zero_add, World.cell?_alloc_mark]
  unfold bytesRow
  rw [Array.getElem?_append_left (by simpa using h2)]
  simp only [Array.getElem?_map, Array.getElem?_eq_getElem h2, Option.map_some]
  rfl
theorem between_any (a b c : Int) (w : World) : Calls Tryd.prog 56 #[.int .i64 a, .int .i64 b, .int .i64 c] w fun e w' => e = .returned (.bool (decide (a ≤ b ∧ b ≤ c))) ∧ w = w' := by
  go_enter Tryd.func56, Tryd.ntmps56
  go_wp2
  all_goals go_ret
  all_goals refine ⟨congrArg (fun b => Ending.returned (.bool b)) ?_, rfl⟩
  all_goals (rw [Bool.eq_iff_iff]; simp; try omega)

def hdH (kind : ByteArray) (n : Int) : ByteArray := kind ++ ⟨(Lib.itoa n).toArray⟩
def hdB (k : List UInt8) (kind : ByteArray) (n : Int) : List UInt8 := (mac k (hdH kind n).data.toList).take 10
def hd (k : List UInt8) (kind : ByteArray) (n : Int) : ByteArray := hdH kind n ++ (⟨#[45]⟩ : ByteArray) ++ ⟨(arm (hdB k kind n)).toArray⟩
def HdOk (len : Nat) (kind : ByteArray) (n : Int) : Prop := len ≤ 64 ∧ goodName kind = true ∧ 1 ≤ n ∧ n ≤ 1000000
instance (len : Nat) (kind : ByteArray) (n : Int) : Decidable (HdOk len kind n) := by unfold HdOk; infer_instance
def hdT (len : Nat) (k : List UInt8) (kind : ByteArray) (n : Int) : ByteArray := if HdOk len kind n then hd k kind n else ⟨#[]⟩

theorem itoaB (n : Int) (h0 : -9223372036854775808 ≤ n) (h1 : n ≤ 9223372036854775807) : (⟨(Lib.itoa n).toArray⟩ : ByteArray).size ≤ 21 := by
  have := Lib.itoa_length_le n h0 h1
  show (Lib.itoa n).toArray.size ≤ 21
  simpa using this
theorem SlB.front {B : Nat} {w : World} {a : Option Addr} {len n : Nat} {l : List UInt8} (h : SlB w B a len l) (hn : n ≤ len) : SlB w B a n (l.take n) := by
  refine ⟨by rw [List.length_take, ← h.1]; omega, ?_⟩
  rcases h.2 with e | ⟨b, off, e, z, r⟩
  · left; rw [e]; simp
  · refine .inr ⟨b, off, e, z, r.z, fun i hi => ?_⟩
    have hi' : i < l.length := by simp at hi; omega
    rw [r.c i hi']
    simp
theorem goodName_le {s : ByteArray} (h : goodName s = true) : s.size ≤ 30 := by
  rcases Nat.lt_or_ge 30 s.size with h2 | h2
  · rw [goodName_size (.inr h2)] at h; cases h
  · exact h2

set_option maxHeartbeats 1000000 in
theorem l18Handle_any (ak : Option Addr) (lk ck : Nat) (k : List UInt8) (kind : ByteArray) (n : Int) (w : World) (hk : lk ≤ 1048576) (hz : kind.size ≤ 200) (hs : SlB w w.heap.size ak lk k) (h0 : -9223372036854775808 ≤ n) (h1 : n ≤ 9223372036854775807) :
    Calls Tryd.prog 64 #[.slice ak lk ck, .string kind, .int .i64 n] w fun e w' => e = .returned (.string (hd k kind n)) ∧ Below w.heap.size w w' := by
  have zI := itoaB n h0 h1
  have qI := hide (fun w => l1Num_any n w h0 h1)
  have eT := hide (show hd k kind n = hdH kind n ++ (⟨#[45]⟩ : ByteArray) ++ ⟨(arm (hdB k kind n)).toArray⟩ from rfl)
  have eB := hide (show hdB k kind n = (mac k (hdH kind n).data.toList).take 10 from rfl)
  have eH := hide (show kind ++ ⟨(Lib.itoa n).toArray⟩ = hdH kind n from rfl)
  have zH : (hdH kind n).size ≤ 221 := by unfold hdH; rw [ByteArray.size_append]; omega
  have zA : (⟨(arm (hdB k kind n)).toArray⟩ : ByteArray).size ≤ 100 := by
    show (arm (hdB k kind n)).toArray.size ≤ 100
    have h8 : (hdB k kind n).length ≤ 10 := by unfold hdB; rw [List.length_take]; omega
    simp only [List.size_toArray, arm_len, many]
    omega
  generalize hd k kind n = T at eT ⊢
  generalize hdB k kind n = TB at eT eB zA
  generalize hdH kind n = TH at eT eB eH zH
  generalize (⟨(Lib.itoa n).toArray⟩ : ByteArray) = I at zI qI eH
  have k1 : ¬ 9223372036854775807 < kind.size + I.size := by omega
  have HS := hide hs
  clear hs
  go_enter Tryd.func64, Tryd.ntmps64
  go_wp2_with fail
  refine (unhide qI _).mono ?_
  rintro e w1 ⟨rfl, hb1⟩
  have B1 := hide hb1
  obtain ⟨cap, w3, cv, hb3, hs3⟩ := conv_bytes TH w1
  have R2 := hide (((unhide HS).keep (bTr hb1 hb3)).mono (bTr hb1 hb3).size)
  have S3 := hide hs3
  have B3 := hide (bTr (unhide B1) hb3)
  clear hb1 hb3 hs3 B1 HS qI
  go_wp2_with (fail)
  rw [unhide eH, cv]
  go_wp2_with (fail)
  refine (l2Mac_any _ _ lk _ TH.size _ k TH.data.toList _ hk (by omega) (unhide R2) (unhide S3)).mono ?_
  rintro e w4 ⟨v, D, hD, rfl, hown, hb4⟩
  have B4 := hide (bTr (unhide B3) hb4)
  have zD : D.length = 16 := by rw [unhide hD]; exact mac_len _ _
  obtain ⟨b, cap4, rfl, hbz, hc4, hcm4, sl4⟩ := own_some hown (by omega)
  have S4 := hide (sl4.front (n := 10) (by omega))
  have eD := hide (show D.take 10 = TB by rw [unhide eB, unhide hD])
  rw [zD] at hc4 ⊢
  unfold maxLen at hcm4
  clear hb4 B3 hown R2 S3 sl4 hD cv hbz
  go_wp2_with fail
  refine (l2Armor_any _ 10 _ TB _ (by omega) ((unhide eD) ▸ unhide S4)).mono ?_
  rintro e w5 ⟨rfl, hb5⟩
  have B5 := hide (bTr (unhide B4) hb5)
  clear hb5 B4 S4 eD
  have k2 : ¬ 9223372036854775806 < TH.size := by omega
  generalize (⟨(arm TB).toArray⟩ : ByteArray) = AR at eT zA ⊢
  go_wp2_with fail
  go_ret
  exact ⟨by rw [unhide eT]; rfl, unhide B5⟩

theorem HdOk.split {len : Nat} {kind : ByteArray} {n : Int} (h : ¬ HdOk len kind n) : 64 < len ∨ (¬ 64 < len ∧ goodName kind = false) ∨ (¬ 64 < len ∧ goodName kind = true ∧ n < 1) ∨ (¬ 64 < len ∧ goodName kind = true ∧ ¬ n < 1 ∧ 1000000 < n) := by
  unfold HdOk at h
  by_cases h1 : 64 < len
  · exact .inl h1
  cases h2 : goodName kind with
  | false => exact .inr (.inl ⟨h1, rfl⟩)
  | true =>
    by_cases h3 : n < 1
    · exact .inr (.inr (.inl ⟨h1, rfl, h3⟩))
    · refine .inr (.inr (.inr ⟨h1, rfl, h3, ?_⟩))
      apply Classical.byContradiction; intro h4
      exact h ⟨by omega, h2, by omega, by omega⟩

set_option maxHeartbeats 1000000 in
theorem iHandleOf_any (ak : Option Addr) (lk ck : Nat) (k : List UInt8) (kind : ByteArray) (n : Int) (w : World) (hk : lk ≤ 1048576) (hz : kind.size ≤ 1048576) (hs : SlB w w.heap.size ak lk k) (h0 : -9223372036854775808 ≤ n) (h1 : n ≤ 9223372036854775807) (hM : Mults w) (hT : Tab w) :
    Calls Tryd.prog 76 #[.slice ak lk ck, .string kind, .int .i64 n] w fun e w' => e = .returned (.string (hdT lk k kind n)) ∧ Below w.heap.size w w' := by
  have qN := hide (fun w => iGoodName_any kind (by unfold maxLen; omega) w)
  have qb := hide (fun w => between_any 1 n 1000000 w)
  by_cases hg : HdOk lk kind n
  · have eT := hide (show hdT lk k kind n = hd k kind n from if_pos hg)
    obtain ⟨h2, h3, h4, h5⟩ := hg
    have hz2 := goodName_le h3
    rw [h3] at qN
    rw [decide_eq_true (show 1 ≤ n ∧ n ≤ 1000000 from ⟨h4, h5⟩)] at qb
    have zI := itoaB n h0 h1
    have qI := hide (fun w h => itoa_any n w h0 h1 h)
    have eB := hide (show hdB k kind n = (mac k (hdH kind n).data.toList).take 10 from rfl)
    have eH := hide (show kind ++ ⟨(Lib.itoa n).toArray⟩ = hdH kind n from rfl)
    have e2 := hide (show hd k kind n = hdH kind n ++ (⟨#[45]⟩ : ByteArray) ++ ⟨(arm (hdB k kind n)).toArray⟩ from rfl)
    have zH : (hdH kind n).size ≤ 221 := by unfold hdH; rw [ByteArray.size_append]; omega
    have z8 : (hdB k kind n).length ≤ 10 := by unfold hdB; rw [List.length_take]; omega
    have zA : (⟨(arm (hdB k kind n)).toArray⟩ : ByteArray).size ≤ 100 := by
      show (arm (hdB k kind n)).toArray.size ≤ 100
      simp only [List.size_toArray, arm_len, many]
      omega
    generalize hdT lk k kind n = T at eT ⊢
    generalize hd k kind n = T2 at eT e2
    generalize hdB k kind n = TB at e2 eB zA z8
    generalize hdH kind n = TH at e2 eB eH zH
    generalize (⟨(Lib.itoa n).toArray⟩ : ByteArray) = I at zI qI eH
    have k1 : ¬ 9223372036854775807 < kind.size + I.size := by omega
    have n2 : ¬ (64 : Int) < (lk : Int) := by omega
    have hkl := hide (show k.length ≤ 64 by rw [← hs.1]; exact h2)
    have HM := hide hM
    have HT := hide hT
    have HS := hide hs
    clear hM hT hs h0 h1 h2 h4 h5
    go_enter Tryd.func76, Tryd.ntmps76
    go_wp2_with fail
    refine (unhide qN _).mono ?_
    rintro e w0 ⟨rfl, hb0⟩
    have B0 := hide hb0
    replace HM := hide ((unhide HM).keepB hb0 (unhide HM).1)
    replace HT := hide ((unhide HT).keep hb0)
    replace HS := hide (((unhide HS).keep hb0).mono hb0.size)
    clear hb0 qN
    go_wp2_with fail
    refine (unhide qb _).mono ?_
    rintro e w1 ⟨rfl, rfl⟩
    go_wp2_with fail
    refine (unhide qI _ (unhide HT)).mono ?_
    rintro e w1 ⟨rfl, hb1⟩
    obtain ⟨cap, w3, cv, hb3, hs3⟩ := conv_bytes TH w1
    have R2 := hide (((unhide HS).keep (bTr hb1 hb3)).mono (bTr hb1 hb3).size)
    have S3 := hide hs3
    replace HM := hide ((unhide HM).keepB (bTr hb1 hb3) (unhide HM).1)
    have B3 := hide (bTr (bTr (unhide B0) hb1) hb3)
    clear hb1 hb3 hs3 B0 qI HT HS qb
    go_wp2_with fail
    rw [unhide eH, cv]
    go_wp2_with fail
    refine (iMac_any _ _ lk _ TH.size _ k TH.data.toList _ hk (by omega) (unhide R2) (unhide S3) (unhide HM)).mono ?_
    rintro e w4 ⟨v, D, hD, rfl, hown, hb4⟩
    have B4 := hide (bTr (unhide B3) hb4)
    have hD2 : D = mac k TH.data.toList := by
      rw [unhide hD]
      refine (macD_yes ⟨Nat.le_trans (unhide hkl) (by omega), ?_⟩).symm
      have : TH.data.toList.length = TH.size := by show _ = TH.data.size; simp
      omega
    have zD : D.length = 16 := by rw [hD2]; exact mac_len _ _
    obtain ⟨b, cap4, rfl, hbz, hc4, hcm4, sl4⟩ := own_some hown (by omega)
    have eD := hide (show D.take 10 = TB by rw [unhide eB, hD2])
    have S4 := hide (show SlB w4 w4.heap.size (some ⟨b, 0, none⟩) 10 TB by rw [← unhide eD]; exact sl4.front (n := 10) (by omega))
    rw [zD] at hc4 ⊢
    unfold maxLen at hcm4
    have q5 := hide (fun c (hc : 10 ≤ c) (hcm : c ≤ maxLen) => iArmor_any (some ⟨b, 0, none⟩) 10 c TB w4 (by unfold maxLen; omega) hc hcm (unhide S4))
    have eA : armD TB = arm TB := by
      unfold armD
      rw [if_pos (by omega)]
    rw [eA] at q5
    clear hb4 B3 hown R2 S3 sl4 hD hD2 cv hbz eD HM eA hkl
    go_wp2_with fail
    refine (unhide q5 _ (by omega) (by unfold maxLen; omega)).mono ?_
    rintro e w5 ⟨rfl, hb5⟩
    have B5 := hide (bTr (unhide B4) hb5)
    clear hb5 B4 S4 q5
    have k2 : ¬ 9223372036854775806 < TH.size := by omega
    generalize (⟨(arm TB).toArray⟩ : ByteArray) = AR at e2 zA ⊢
    go_wp2_with fail
    go_ret
    exact ⟨by rw [unhide eT, unhide e2]; rfl, unhide B5⟩
  · have eT := hide (show hdT lk k kind n = ⟨#[]⟩ from if_neg hg)
    generalize hdT lk k kind n = T at eT ⊢
    clear hs hM hT
    rcases HdOk.split hg with h2 | ⟨h2, h3⟩ | ⟨h2, h3, h4⟩ | ⟨h2, h3, h4, h5⟩
    · go_enter Tryd.func76, Tryd.ntmps76
      go_wp2_with fail
      go_ret
      exact ⟨by rw [unhide eT]; rfl, Below.refl _ _⟩
    · rw [h3] at qN
      go_enter Tryd.func76, Tryd.ntmps76
      go_wp2_with fail
      refine (unhide qN _).mono ?_
      rintro e w1 ⟨rfl, hb1⟩
      have B1 := hide hb1
      clear hb1
      go_wp2_with fail
      go_ret
      exact ⟨by rw [unhide eT]; rfl, unhide B1⟩
    all_goals
      rw [h3] at qN
      rw [decide_eq_false (show ¬ (1 ≤ n ∧ n ≤ 1000000) by omega)] at qb
      clear h4
      try clear h5
      go_enter Tryd.func76, Tryd.ntmps76
      go_wp2_with fail
      refine (unhide qN _).mono ?_
      rintro e w1 ⟨rfl, hb1⟩
      have B1 := hide hb1
      clear hb1
      go_wp2_with fail
      refine (unhide qb _).mono ?_
      rintro e w2 ⟨rfl, rfl⟩
      go_wp2_with fail
      go_ret
      exact ⟨by rw [unhide eT]; rfl, unhide B1⟩

def chT (v : ByteArray) : ByteArray := if v.size ≤ 200 then ⟨(arm (dig v.data.toList)).toArray⟩ else ⟨#[]⟩
theorem data_len (v : ByteArray) : v.data.toList.length = v.size := by show _ = v.data.size; simp
end Go.Proofs.YtppkgcedkdeccaaDoor.D
