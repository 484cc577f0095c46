/- QDec, QBlk, one behind the other. -/
import Derived.Test.YtdflnjjomljgmaaGreatDoorJ12
import Derived.Test.YtdflnjjomljgmaaGreatDoorJ3
import Derived.Maps.AppendAt
import Derived.Laws.Bits64b
/- Decimal numbers: impl.decimalText; texts as spec.l1Text has them. -/
namespace Go.Proofs.YtdflnjjomljgmaaGreatDoor
open Go.RowKit

def padL (D : List UInt8) : List UInt8 := List.replicate (5 - D.length) 48 ++ D
def dotL (P : List UInt8) : List UInt8 := P.take (P.length - 4) ++ 46 :: P.drop (P.length - 4)
def decL (n : Int) : List UInt8 := (if n < 0 then [45] else []) ++ dotL (padL (Lib.decDigits n.natAbs))
theorem padL_len (D : List UInt8) : (padL D).length = 5 - D.length + D.length := by simp [padL]
theorem dig_len (n : Int) (h0 : -9223372036854775808 ≤ n) (h1 : n ≤ 9223372036854775807) : (Lib.decDigits n.natAbs).length ≤ 21 := by
  have := Lib.itoa_length_le n h0 h1
  unfold Lib.itoa at this
  split at this
  · simp at this; omega
  · rw [show n.natAbs = n.toNat by omega]; exact this
theorem dot_bytes (X : ByteArray) (P : List UInt8) (hX : X.data.toList = P) (p : Nat) (hp : p = P.length - 4) : (X.extract 0 p ++ ⟨#[46]⟩ ++ X.extract p X.size : ByteArray) = ⟨(dotL P).toArray⟩ := by
  have hs : X.size = P.length := by rw [← hX]; simp
  subst hp
  apply ByteArray.ext
  apply Array.toList_inj.1
  simp [ByteArray.data_append, ByteArray.data_extract, dotL, hX, hs, List.take_of_length_le]

theorem rep_one (c : Nat) : Lib.repeatL [48] c = List.replicate c 48 := by
  induction c with
  | zero => rfl
  | succ c ih => show [48] ++ Lib.repeatL [48] c = _; rw [ih]; rfl
theorem pad_bytes (Y : ByteArray) (D : List UInt8) (hY : Y.data.toList = D) : ((⟨(Lib.repeatL [48] (5 - D.length)).toArray⟩ : ByteArray) ++ Y : ByteArray).data.toList = padL D := by
  rw [rep_one]
  simp [ByteArray.data_append, padL, hY]
theorem sign_bytes (S : ByteArray) (L : List UInt8) (X : ByteArray) (hX : X = ⟨L.toArray⟩) : (S ++ X : ByteArray) = ⟨(S.data.toList ++ L).toArray⟩ := by
  subst hX
  apply ByteArray.ext
  apply Array.toList_inj.1
  simp [ByteArray.data_append]

set_option maxRecDepth 8000 in
set_option maxHeartbeats 2000000 in
theorem decimalText_any (n : Int) (w : World) (h0 : -9223372036854775808 ≤ n) (h1 : n ≤ 9223372036854775807) (ht : Tab w) :
    Calls Tryz.prog 137 #[.int .i64 n] w fun e w' => e = .returned (.string ⟨(decL n).toArray⟩) ∧ Below w.heap.size w w' := by
  have qi := hide (itoa_any n w h0 h1 ht)
  have hD := dig_len n h0 h1
  obtain ⟨Y, hYD⟩ : ∃ Y : ByteArray, Y = ⟨(Lib.decDigits n.natAbs).toArray⟩ := ⟨_, rfl⟩
  have HY := hide (show Y.data.toList = Lib.decDigits n.natAbs by rw [hYD])
  have hYs : Y.size = (Lib.decDigits n.natAbs).length := by rw [hYD]; show (Lib.decDigits n.natAbs).toArray.size = _; simp
  have hy : Y.size ≤ 21 := by omega
  obtain ⟨C, hC⟩ : ∃ C, 5 - Y.size = C := ⟨_, rfl⟩
  have hCi : max (0 : Int) (5 - (Y.size : Int)) = (C : Int) := by omega
  have hC5 : C ≤ 5 := by omega
  have qr : Hid (∀ w, Calls Tryz.prog 142 #[.string ⟨#[48]⟩, .int .i64 C] w fun e w' => e = .returned (.string ⟨(Lib.repeatL [48] C).toArray⟩) ∧ Below w.heap.size w w') := hide (fun w => Tryz.strings_Repeat ⟨#[48]⟩ C w (by omega) (by show 1 * C ≤ _; omega))
  obtain ⟨Z, hZ⟩ : ∃ Z : ByteArray, Z = ⟨(Lib.repeatL [48] C).toArray⟩ := ⟨_, rfl⟩
  have hZs : Z.size = C := by rw [hZ, rep_one]; show (List.replicate C (48 : UInt8)).toArray.size = _; simp
  have HP := hide (show (Z ++ Y : ByteArray).data.toList = padL (Lib.decDigits n.natAbs) by rw [hZ, ← hC, hYs]; exact pad_bytes Y _ (unhide HY))
  have hPs : (Z ++ Y : ByteArray).size = C + Y.size := by rw [ByteArray.size_append, hZs]
  obtain ⟨P, hP⟩ : ∃ P, (Z ++ Y : ByteArray) = P := ⟨_, rfl⟩
  have p5 : 5 ≤ P.size ∧ P.size ≤ 26 := by rw [← hP, hPs]; omega
  have z1 : ¬ 9223372036854775807 < Z.size + Y.size := by omega
  have z2 : Z.size + Y.size ≤ 9223372036854775807 := by omega
  rw [hP] at HP
  rw [← hZ] at qr
  obtain ⟨p, hp⟩ : ∃ p, P.size - 4 = p := ⟨_, rfl⟩
  have hpi : (P.size : Int) - 4 = (p : Int) := by omega
  have hp0 : (0 : Int) ≤ (p : Int) := by omega
  have hp1 : (p : Int) ≤ (P.size : Int) := by omega
  have HPl := hide (show P.size = (padL (Lib.decDigits n.natAbs)).length by rw [← unhide HP]; simp)
  have hdot := hide (dot_bytes P (padL (Lib.decDigits n.natAbs)) (unhide HP) p (by rw [← unhide HPl]; exact hp.symm))
  have hDB := hide (show (⟨(Lib.decDigits n.natAbs).toArray⟩ : ByteArray) = Y from hYD.symm)
  have r1 : (P.extract 0 p).size = p := by rw [ByteArray.size_extract]; omega
  have r2 : (P.extract p P.size).size = 4 := by rw [ByteArray.size_extract]; omega
  have HR1 := hide r1
  have HR2 := hide r2
  have HHP := hide hP
  clear hZ hZs hPs hYs hC hp r1 r2 hYD
  by_cases hn : n < 0
  · have e1 : Lib.itoa n = 45 :: Lib.decDigits n.natAbs := by unfold Lib.itoa; rw [if_pos hn]
    have eL := hide (show decL n = [45] ++ dotL (padL (Lib.decDigits n.natAbs)) by unfold decL; rw [if_pos hn])
    obtain ⟨X, hX⟩ : ∃ X : ByteArray, X = ⟨(45 :: Lib.decDigits n.natAbs).toArray⟩ := ⟨_, rfl⟩
    have hXs : 1 ≤ X.size := by rw [hX]; show 1 ≤ (45 :: Lib.decDigits n.natAbs).toArray.size; simp
    have hex : X.extract 1 X.size = Y := by
      rw [← unhide hDB]
      apply ByteArray.ext
      apply Array.toList_inj.1
      rw [hX]
      simp [ByteArray.data_extract, ByteArray.size]
    have i1 : (1 : Int) ≤ (X.size : Int) := by omega
    rw [e1, ← hX] at qi
    generalize decL n = E at eL
    clear hX e1 hD
    go_enter Tryz.func137, Tryz.ntmps137
    go_wp2_with fail
    refine (unhide qi).mono ?_
    rintro e w1 ⟨rfl, hb⟩
    have B1 := hide hb
    clear hb qi
    go_wp2_with fail
    go_quiet (fail)
    go_wp2_with fail
    refine (unhide qr _).mono ?_
    rintro e w2 ⟨rfl, hb2⟩
    have B2 := hide (bTr (below_drewN (unhide B1) nq) hb2)
    clear hb2 B1
    go_wp2_with fail
    obtain ⟨A1, hA1⟩ : ∃ A1, P.extract 0 p = A1 := ⟨_, rfl⟩
    obtain ⟨A2, hA2⟩ : ∃ A2, P.extract p P.size = A2 := ⟨_, rfl⟩
    have sA1 : A1.size ≤ 26 := by rw [← hA1, unhide HR1]; omega
    have sA2 : A2.size ≤ 26 := by rw [← hA2, unhide HR2]; omega
    rw [hA1, hA2] at hdot
    generalize hS : (⟨#[45]⟩ : ByteArray) = S
    have sS : S.size ≤ 1 := by rw [← hS]; decide
    have fin := hide (show (S ++ A1 ++ ⟨#[46]⟩ ++ A2 : ByteArray) = ⟨E.toArray⟩ by
      rw [ByteArray.append_assoc, ByteArray.append_assoc, ← ByteArray.append_assoc (a := A1), unhide hdot, sign_bytes S _ _ rfl, ← hS, unhide eL])
    have k1 : ¬ 9223372036854775807 < S.size + A1.size := by omega
    have k2 : S.size + A1.size ≤ 9223372036854775807 := by omega
    have k3 : ¬ 9223372036854775806 < S.size + A1.size := by omega
    have k4 : S.size + A1.size ≤ 9223372036854775806 := by omega
    have k5 : ¬ 9223372036854775807 < S.size + A1.size + 1 + A2.size := by omega
    have k6 : S.size + A1.size + 1 + A2.size ≤ 9223372036854775807 := by omega
    clear hS
    go_quiet (fail)
    go_wp2_with fail
    go_ret
    exact ⟨by rw [← unhide fin]; rfl, below_drewN (unhide B2) _⟩
  · have e1 : Lib.itoa n = Lib.decDigits n.natAbs := by unfold Lib.itoa; rw [if_neg hn]; congr 1; omega
    have eL := hide (show decL n = [] ++ dotL (padL (Lib.decDigits n.natAbs)) by unfold decL; rw [if_neg hn])
    rw [e1, unhide hDB] at qi
    generalize decL n = E at eL
    clear e1 hD
    go_enter Tryz.func137, Tryz.ntmps137
    go_wp2_with fail
    refine (unhide qi).mono ?_
    rintro e w1 ⟨rfl, hb⟩
    have B1 := hide hb
    clear hb qi
    go_wp2_with fail
    refine (unhide qr _).mono ?_
    rintro e w2 ⟨rfl, hb2⟩
    have B2 := hide (bTr (unhide B1) hb2)
    clear hb2 B1
    go_wp2_with fail
    obtain ⟨A1, hA1⟩ : ∃ A1, P.extract 0 p = A1 := ⟨_, rfl⟩
    obtain ⟨A2, hA2⟩ : ∃ A2, P.extract p P.size = A2 := ⟨_, rfl⟩
    have sA1 : A1.size ≤ 26 := by rw [← hA1, unhide HR1]; omega
    have sA2 : A2.size ≤ 26 := by rw [← hA2, unhide HR2]; omega
    rw [hA1, hA2] at hdot
    generalize hS : (⟨#[]⟩ : ByteArray) = S
    have sS : S.size ≤ 1 := by rw [← hS]; decide
    have fin := hide (show (S ++ A1 ++ ⟨#[46]⟩ ++ A2 : ByteArray) = ⟨E.toArray⟩ by
      rw [ByteArray.append_assoc, ByteArray.append_assoc, ← ByteArray.append_assoc (a := A1), unhide hdot, sign_bytes S _ _ rfl, ← hS, unhide eL])
    have k1 : ¬ 9223372036854775807 < S.size + A1.size := by omega
    have k2 : S.size + A1.size ≤ 9223372036854775807 := by omega
    have k3 : ¬ 9223372036854775806 < S.size + A1.size := by omega
    have k4 : S.size + A1.size ≤ 9223372036854775806 := by omega
    have k5 : ¬ 9223372036854775807 < S.size + A1.size + 1 + A2.size := by omega
    have k6 : S.size + A1.size + 1 + A2.size ≤ 9223372036854775807 := by omega
    clear hS
    go_quiet (fail)
    go_wp2_with fail
    go_ret
    exact ⟨by rw [← unhide fin]; rfl, below_drewN (unhide B2) _⟩
end Go.Proofs.YtdflnjjomljgmaaGreatDoor
/- Blocks of addresses: impl.blockText. -/
namespace Go.Proofs.YtdflnjjomljgmaaGreatDoor
open Go.RowKit

theorem RowIs.at {w : World} {b : Nat} {C : Array Value} {T : TypeId} (h : RowIs w b C T) {o : Nat} {v : Value} (e : C[o]? = some v) : w.cell? ⟨b, o, none⟩ = some v := by rw [h.cell]; exact e
/-- The four numbers of an address. -/
def four (f : Int) : List Int := [f / 16777216, f / 65536 % 256, f / 256 % 256, f % 256]
def blkL (f b : Int) : List UInt8 := Lib.join ((four f).map Lib.itoa) [46] ++ 47 :: Lib.itoa b
def strsV (l : List (List UInt8)) : List Value := l.map fun x => .string ⟨x.toArray⟩
theorem info_str : (Tryz.prog.info? 9).map (fun i => (i.zero, i.size, i.bytes)) = some (some (.string ByteArray.empty), 1, 16) := by kernel_rfl

theorem RowIs.lt {w : World} {b : Nat} {C : Array Value} {T : TypeId} (h : RowIs w b C T) : b < w.heap.size := by
  unfold RowIs at h; exact (Array.getElem?_eq_some_iff.1 h).1
theorem RowIs.keep {w w1 : World} {b : Nat} {C : Array Value} {T : TypeId} (h : RowIs w b C T) (hb : Below w.heap.size w w1) : RowIs w1 b C T := by
  have hl := h.lt
  unfold RowIs at *; rw [hb.block b hl]; exact h
theorem row_grown {w w' : World} {b : Nat} {C : Array Value} {T : TypeId} {row : Option Nat} (h : RowIs w b C T) (hg : w.grownBy w' row) (hne : row ≠ some b) : RowIs w' b C T := by
  have hl := h.lt
  unfold RowIs at *
  rw [hg.block b hl (fun h => hne h.symm)]; exact h
theorem Tab.lt {w : World} (h : Tab w) : 3 < w.heap.size := by
  have hc := World.var?_cell gPow h 0
  apply Classical.byContradiction
  intro hn
  unfold World.cell? at hc
  rw [Array.getElem?_eq_none (by show w.heap.size ≤ 3; omega)] at hc
  simp [Lib.pow10Tab] at hc
/-- The table lies in block 0: it is kept by what writes no block of the globals. -/
theorem Tab.keepG {w w' : World} {o : Obj} {row : Option Nat} (h : Tab w) (hg : (w.alloc o).grownBy w' row) (hne : row ≠ some 3) : Tab w' := by
  have h1 := h.keep (bAl (Below.refl w.heap.size w) o)
  unfold Tab Lib.TabIs at *
  rw [← h1]
  unfold World.var?
  rw [gPow]
  simp only [Option.bind_some]
  rw [hg.block _ ?_ (fun e => hne e.symm)]
  unfold World.var? at h1
  rw [gPow] at h1
  simp only [Option.bind_some] at h1
  apply Classical.byContradiction
  intro hn
  rw [Array.getElem?_eq_none (by omega)] at h1
  simp at h1
theorem and255 (x : Int) (h0 : 0 ≤ x) (h1 : x < 9223372036854775808) : bits .and .i64 x 255 = x % 256 := bits_mask .i64 63 (by decide) (fun n a b => by rw [IntKind.wrap_i64]; omega) 8 (by decide) x h0 h1
theorem inter_len (m : Nat) : ∀ L : List (List UInt8), (∀ x ∈ L, x.length ≤ m) → (Lib.join L [46]).length ≤ (m + 1) * L.length
  | [], _ => by simp [Lib.join, List.intercalate]
  | [a], h => by
    have := h a (by simp)
    simp [Lib.join, List.intercalate]
    omega
  | a :: b :: L, h => by
    have ih := inter_len m (b :: L) (fun x hx => h x (List.mem_cons_of_mem _ hx))
    have := h a (by simp)
    simp [Lib.join, List.intercalate, Nat.mul_add] at ih ⊢
    omega
theorem join_own {w : World} {base : Nat} {v : Value} {L : List (List UInt8)} (h : w.ownsRow base 9 1 v L.length (strsV L)) (hL : L.length ≤ 100) (m : Nat) (hm : m ≤ 100000) (hx : ∀ x ∈ L, x.length ≤ m) :
    Calls Tryz.prog 143 #[v, .string ⟨#[46]⟩] w fun e w' => e = .returned (.string ⟨(Lib.join L [46]).toArray⟩) ∧ Below w.heap.size w w' := by
  rcases h.2 with ⟨rfl, e⟩ | ⟨g, cap, cur, rfl, _, hh, hc, _, hsz, htk⟩
  · have : L = [] := List.length_eq_zero_iff.1 e
    subst this
    refine (Tryz.strings_Join_none none 0 ⟨#[46]⟩ w).mono ?_
    rintro e w' ⟨rfl, rfl⟩
    exact ⟨rfl, Below.refl _ _⟩
  · have hr : RowIs w g cur 9 := hh
    have hlt : g < w.heap.size := (Array.getElem?_eq_some_iff.1 hh).1
    have hlen := inter_len m L hx
    have hle : (m + 1) * L.length ≤ 100001 * 100 := Nat.mul_le_mul (by omega) hL
    have := Tryz.strings_Join g 0 cap (L.map fun x => ⟨x.toArray⟩) ⟨#[46]⟩ w (fun j x hj => by
        have f0 : (strsV L)[j]? = some (.string x) := by
          unfold strsV
          rw [List.getElem?_map] at hj ⊢
          obtain ⟨y, h1, h2⟩ := Option.map_eq_some_iff.1 hj
          rw [h1]; simp [← h2]
        rw [← htk, List.getElem?_take] at f0
        rw [Nat.zero_add, hr.cell, ← Array.getElem?_toList]
        split at f0
        · exact f0
        · cases f0) hlt (by simp; omega) (by simpa using hc) (by
        have e : (L.map fun x => (⟨x.toArray⟩ : ByteArray)).map (·.data.toList) = L := by rw [List.map_map]; exact List.map_id'' (fun x => by simp) L
        rw [e]
        show (Lib.join L [46]).length ≤ _
        omega)
    have e : (L.map fun x => (⟨x.toArray⟩ : ByteArray)).map (·.data.toList) = L := by rw [List.map_map]; exact List.map_id'' (fun x => by simp) L
    rw [e, List.length_map] at this
    exact this

set_option maxRecDepth 8000 in
set_option maxHeartbeats 4000000 in
theorem blockText_any (f b : Int) (w : World) (hf0 : 0 ≤ f) (hf1 : f < 4294967296) (hb0 : 0 ≤ b) (hb1 : b ≤ 32) (ht : Tab w) :
    Calls Tryz.prog 138 #[.agg #[.int .i64 f, .int .i64 b]] w fun e w' => e = .returned (.string ⟨(blkL f b).toArray⟩) ∧ Below w.heap.size w w' := by
  obtain ⟨i0, hi, hz0, hz1, hz2⟩ := info_parts info_str
  have R0 := hide (RowIs.new w #[.int .i64 f, .int .i64 b] 141)
  have B0 := hide (bAl (Below.refl w.heap.size w) (.cells #[.int .i64 f, .int .i64 b] 141))
  have T0 := hide (ht.keep (unhide B0))
  have hgz := ht.lt
  clear ht
  go_enter Tryz.func138, Tryz.ntmps138
  go_wp2_with fail
  go_loopw [3, 4] (fun v q w' => ∃ (k : Nat), k ≤ 4 ∧ q = .int .i64 (24 - 8 * (k : Int)) ∧ Hid (w'.ownsRow (w.heap.size + 1) 9 1 v k (strsV (((four f).map Lib.itoa).take k))) ∧ Hid (RowIs w' w.heap.size #[.int .i64 f, .int .i64 b] 141) ∧ Hid (Tab w') ∧ Hid (Below w.heap.size w w')) (fun _ q _ => (intOf q + 8).toNat)
  case atStart => exact ⟨0, Nat.zero_le _, rfl, hide (World.ownsRow_nil _ _ _ _), R0, T0, B0⟩
  case round =>
    obtain ⟨k, hk, rfl, hown, hR, hT, hb⟩ := hrel
    have c0 := (unhide hR).at (o := 0) (v := .int .i64 f) rfl
    have c1 := (unhide hR).at (o := 1) (v := .int .i64 b) rfl
    have hk' : k = 0 ∨ k = 1 ∨ k = 2 ∨ k = 3 ∨ k = 4 := by omega
    rcases hk' with rfl | rfl | rfl | rfl | rfl
    · have ea : bits .and .i64 (f / 16777216) 255 = f / 16777216 := by rw [and255 _ (by omega) (by omega)]; omega
      have qi := hide (fun w h => itoa_any (f / 16777216) w (by omega) (by omega) h)
      have st := hide (show ((four f).map Lib.itoa).take 1 = ((four f).map Lib.itoa).take 0 ++ [Lib.itoa (f / 16777216)] from rfl)
      generalize Lib.itoa (f / 16777216) = S at qi st
      go_wp2_with fail
      refine (unhide qi _ (unhide hT)).mono ?_
      rintro e w2 ⟨rfl, hb2⟩
      have o2 := hide (own_keepT (unhide hown) hb2)
      have r2 := hide ((unhide hR).keep hb2)
      have t2 := hide ((unhide hT).keep hb2)
      have b2 := hide (bTr (unhide hb) hb2)
      clear hb2 qi ea c0 c1
      go_wp2_with (at_builtin; refine wpList_append_own_at _ rfl _ _ 29 rfl (w.heap.size + 1) 9 i0 _ 1 16 Tryz.underlying29 hi hz0 hz1 hz2 rfl (by decide) _ _ _ rfl ((unhide o2).alloc _) ⟨_, 0, none⟩ 1 1 [.string _] rfl rfl (cell_one_new _ _ _) (fun x hx => by simp at hx; subst hx; rfl) (by unfold maxLen; omega) (by omega) (by have := (unhide r2).lt; simp; omega) ?_; intro v3 w3 hown3 hgrow3 _ hat3)
      have zr := (unhide r2).lt
      refine ⟨⟨1, by omega, by rfl, hide ?_, hide (row_grown ((unhide r2).keep (bAl (Below.refl _ _) _)) hgrow3 (fun e => by have := ((unhide o2).lt _ e).1; omega)), hide ((unhide t2).keepG hgrow3 (fun e => by have := ((unhide o2).lt _ e).1; omega)), hide ((bAl (unhide b2) _).grown hgrow3 (by have := (unhide b2).size; simp; omega) (fun j hj => by have := ((unhide o2).lt j hj).1; omega))⟩, by simp [intOf]⟩
      rw [unhide st]
      unfold strsV
      rw [List.map_append]
      exact hown3
    · have ea : bits .and .i64 (f / 65536) 255 = f / 65536 % 256 := by rw [and255 _ (by omega) (by omega)]
      have qi := hide (fun w h => itoa_any (f / 65536 % 256) w (by omega) (by omega) h)
      have st := hide (show ((four f).map Lib.itoa).take 2 = ((four f).map Lib.itoa).take 1 ++ [Lib.itoa (f / 65536 % 256)] from rfl)
      generalize Lib.itoa (f / 65536 % 256) = S at qi st
      go_wp2_with fail
      refine (unhide qi _ (unhide hT)).mono ?_
      rintro e w2 ⟨rfl, hb2⟩
      have o2 := hide (own_keepT (unhide hown) hb2)
      have r2 := hide ((unhide hR).keep hb2)
      have t2 := hide ((unhide hT).keep hb2)
      have b2 := hide (bTr (unhide hb) hb2)
      clear hb2 qi ea c0 c1
      go_wp2_with (at_builtin; refine wpList_append_own_at _ rfl _ _ 29 rfl (w.heap.size + 1) 9 i0 _ 1 16 Tryz.underlying29 hi hz0 hz1 hz2 rfl (by decide) _ _ _ rfl ((unhide o2).alloc _) ⟨_, 0, none⟩ 1 1 [.string _] rfl rfl (cell_one_new _ _ _) (fun x hx => by simp at hx; subst hx; rfl) (by unfold maxLen; omega) (by omega) (by have := (unhide r2).lt; simp; omega) ?_; intro v3 w3 hown3 hgrow3 _ hat3)
      have zr := (unhide r2).lt
      refine ⟨⟨2, by omega, by rfl, hide ?_, hide (row_grown ((unhide r2).keep (bAl (Below.refl _ _) _)) hgrow3 (fun e => by have := ((unhide o2).lt _ e).1; omega)), hide ((unhide t2).keepG hgrow3 (fun e => by have := ((unhide o2).lt _ e).1; omega)), hide ((bAl (unhide b2) _).grown hgrow3 (by have := (unhide b2).size; simp; omega) (fun j hj => by have := ((unhide o2).lt j hj).1; omega))⟩, by simp [intOf]⟩
      rw [unhide st]
      unfold strsV
      rw [List.map_append]
      exact hown3
    · have ea : bits .and .i64 (f / 256) 255 = f / 256 % 256 := by rw [and255 _ (by omega) (by omega)]
      have qi := hide (fun w h => itoa_any (f / 256 % 256) w (by omega) (by omega) h)
      have st := hide (show ((four f).map Lib.itoa).take 3 = ((four f).map Lib.itoa).take 2 ++ [Lib.itoa (f / 256 % 256)] from rfl)
      generalize Lib.itoa (f / 256 % 256) = S at qi st
      go_wp2_with fail
      refine (unhide qi _ (unhide hT)).mono ?_
      rintro e w2 ⟨rfl, hb2⟩
      have o2 := hide (own_keepT (unhide hown) hb2)
      have r2 := hide ((unhide hR).keep hb2)
      have t2 := hide ((unhide hT).keep hb2)
      have b2 := hide (bTr (unhide hb) hb2)
      clear hb2 qi ea c0 c1
      go_wp2_with (at_builtin; refine wpList_append_own_at _ rfl _ _ 29 rfl (w.heap.size + 1) 9 i0 _ 1 16 Tryz.underlying29 hi hz0 hz1 hz2 rfl (by decide) _ _ _ rfl ((unhide o2).alloc _) ⟨_, 0, none⟩ 1 1 [.string _] rfl rfl (cell_one_new _ _ _) (fun x hx => by simp at hx; subst hx; rfl) (by unfold maxLen; omega) (by omega) (by have := (unhide r2).lt; simp; omega) ?_; intro v3 w3 hown3 hgrow3 _ hat3)
      have zr := (unhide r2).lt
      refine ⟨⟨3, by omega, by rfl, hide ?_, hide (row_grown ((unhide r2).keep (bAl (Below.refl _ _) _)) hgrow3 (fun e => by have := ((unhide o2).lt _ e).1; omega)), hide ((unhide t2).keepG hgrow3 (fun e => by have := ((unhide o2).lt _ e).1; omega)), hide ((bAl (unhide b2) _).grown hgrow3 (by have := (unhide b2).size; simp; omega) (fun j hj => by have := ((unhide o2).lt j hj).1; omega))⟩, by simp [intOf]⟩
      rw [unhide st]
      unfold strsV
      rw [List.map_append]
      exact hown3
    · have ea : bits .and .i64 (f) 255 = f % 256 := by rw [and255 _ (by omega) (by omega)]
      have qi := hide (fun w h => itoa_any (f % 256) w (by omega) (by omega) h)
      have st := hide (show ((four f).map Lib.itoa).take 4 = ((four f).map Lib.itoa).take 3 ++ [Lib.itoa (f % 256)] from rfl)
      generalize Lib.itoa (f % 256) = S at qi st
      go_wp2_with fail
      refine (unhide qi _ (unhide hT)).mono ?_
      rintro e w2 ⟨rfl, hb2⟩
      have o2 := hide (own_keepT (unhide hown) hb2)
      have r2 := hide ((unhide hR).keep hb2)
      have t2 := hide ((unhide hT).keep hb2)
      have b2 := hide (bTr (unhide hb) hb2)
      clear hb2 qi ea c0 c1
      go_wp2_with (at_builtin; refine wpList_append_own_at _ rfl _ _ 29 rfl (w.heap.size + 1) 9 i0 _ 1 16 Tryz.underlying29 hi hz0 hz1 hz2 rfl (by decide) _ _ _ rfl ((unhide o2).alloc _) ⟨_, 0, none⟩ 1 1 [.string _] rfl rfl (cell_one_new _ _ _) (fun x hx => by simp at hx; subst hx; rfl) (by unfold maxLen; omega) (by omega) (by have := (unhide r2).lt; simp; omega) ?_; intro v3 w3 hown3 hgrow3 _ hat3)
      have zr := (unhide r2).lt
      refine ⟨⟨4, by omega, by rfl, hide ?_, hide (row_grown ((unhide r2).keep (bAl (Below.refl _ _) _)) hgrow3 (fun e => by have := ((unhide o2).lt _ e).1; omega)), hide ((unhide t2).keepG hgrow3 (fun e => by have := ((unhide o2).lt _ e).1; omega)), hide ((bAl (unhide b2) _).grown hgrow3 (by have := (unhide b2).size; simp; omega) (fun j hj => by have := ((unhide o2).lt j hj).1; omega))⟩, by simp [intOf]⟩
      rw [unhide st]
      unfold strsV
      rw [List.map_append]
      exact hown3
    · have fx : ∀ x ∈ (four f).map Lib.itoa, x.length ≤ 21 := fun x hx => by
        obtain ⟨q, hq, rfl⟩ := List.mem_map.1 hx
        refine Lib.itoa_length_le q ?_ ?_
        · simp [four] at hq; omega
        · simp [four] at hq; omega
      have jl := inter_len 21 _ fx
      have own4 := hide (show wr.ownsRow (w.heap.size + 1) 9 1 u3 ((four f).map Lib.itoa).length (strsV ((four f).map Lib.itoa)) from unhide hown)
      have qj := hide (fun q : Kept wr => join_own (own_keepT (unhide own4) q.h) (by simp [four]) 21 (by omega) fx)
      have qb := hide (fun q : Kept wr => itoa_any b q.w (by omega) (by omega) ((unhide hT).keep q.h))
      have bl := Lib.itoa_length_le b (by omega) (by omega)
      obtain ⟨J, hJ⟩ : ∃ J : ByteArray, J = ⟨(Lib.join ((four f).map Lib.itoa) [46]).toArray⟩ := ⟨_, rfl⟩
      obtain ⟨I, hI⟩ : ∃ I : ByteArray, I = ⟨(Lib.itoa b).toArray⟩ := ⟨_, rfl⟩
      have sJ : J.size ≤ 1000 := by rw [hJ]; show (Lib.join ((four f).map Lib.itoa) [46]).toArray.size ≤ _; rw [List.size_toArray]; simp [four] at jl ⊢; omega
      have sI : I.size ≤ 21 := by rw [hI]; show (Lib.itoa b).toArray.size ≤ _; rw [List.size_toArray]; exact bl
      have fin := hide (show (J ++ ⟨#[47]⟩ ++ I : ByteArray) = ⟨(blkL f b).toArray⟩ by
        rw [hJ, hI]
        apply ByteArray.ext
        apply Array.toList_inj.1
        simp [ByteArray.data_append, blkL])
      rw [← hJ] at qj
      rw [← hI] at qb
      have k1 : ¬ 9223372036854775806 < J.size := by omega
      have k2 : J.size ≤ 9223372036854775806 := by omega
      have k3 : ¬ 9223372036854775807 < J.size + 1 + I.size := by omega
      have k4 : J.size + 1 + I.size ≤ 9223372036854775807 := by omega
      have ne : Nonempty (Kept wr) := ⟨⟨wr, Below.refl _ _⟩⟩
      have e1 := kept_cell (unhide hR).lt c1
      clear hJ hI jl bl fx c0 c1
      go_wp2_with fail
      refine wp_region_kept (by kernel_rfl) (by kernel_rfl) ?_
      repeat (first
        | go_big_quiet_step (first | (go_at_call 143; exact kept_call (unhide qj _)) | (go_at_call 139; exact kept_call (unhide qb _)))
        | quiet_step (first | (go_at_call 143; exact kept_call (unhide qj _)) | (go_at_call 139; exact kept_call (unhide qb _))))
      refine wpQuiet_nil ?_
      rintro _ ⟨q, rfl⟩
      obtain ⟨w3, hb3⟩ := q
      go_wp2_with fail
      go_ret
      exact ⟨by rw [← unhide fin]; rfl, bTr (unhide hb) hb3⟩
end Go.Proofs.YtdflnjjomljgmaaGreatDoor
