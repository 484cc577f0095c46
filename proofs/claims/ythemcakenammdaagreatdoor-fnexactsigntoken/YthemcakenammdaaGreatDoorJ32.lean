/- KSa, WEq, one behind the other. -/
import Derived.Test.YthemcakenammdaaGreatDoorJ25
import Derived.Test.YthemcakenammdaaGreatDoorJ24
import Derived.Test.YthemcakenammdaaGreatDoorJ29
import Derived.Test.YthemcakenammdaaGreatDoorJ31
import Derived.Test.YthemcakenammdaaGreatDoorJ27
import Derived.Deep.RegionHeld3
import Derived.Deep.AppendLies
import Derived.Test.YthemcakenammdaaGreatDoorJ15
/- SignToken on both sides. -/
namespace Go.Proofs.YthemcakenammdaaGreatDoor.D
open Go.RowKit
set_option maxRecDepth 20000
set_option linter.unusedSimpArgs false

/-- '[]byte(s)': a new row of the call's own, its cells the bytes of s. -/
theorem conv_bytes (s : ByteArray) (w : World) : ∃ cap w1, (convert 9 44 (.string s)).run Tryz.prog w = .ok (.slice (some ⟨w.heap.size, 0, none⟩) s.size cap) w1 ∧ Below w.heap.size w w1 ∧ SlB w1 w1.heap.size (some ⟨w.heap.size, 0, none⟩) s.size s.data.toList := by
  refine ⟨_, _, run_bytes_of_string (P := Tryz.prog) w 9 44 5 s Tryz.underlying9 Tryz.underlying44 Tryz.underlying5, ((Below.refl _ _).drew).alloc (Nat.le_refl _) _, ?_⟩
  have e : s.size = s.data.toList.length := by show s.data.size = _; simp
  refine ⟨e, .inr ⟨_, 0, rfl, by simp, by simp, ?_⟩⟩
  intro j h
  have h' : w.drew.heap.size = w.heap.size := rfl
  have h2 : j < s.data.size := by simpa using h
  rw [← h', Nat.zero_add, World.cell?_alloc_mark]
  unfold bytesRow
  rw [Array.getElem?_append_left (by simpa using h2)]
  simp only [Array.getElem?_map, Array.getElem?_eq_getElem h2, Option.map_some]
  rfl
abbrev vA (v : V.ValT) (a1 a2 : Option Addr) (l1 c1 l2 c2 : Nat) : Value := .agg #[.int .i64 v.k, .int .i64 v.a.x, .int .i64 v.a.n, .string v.a.t, .string v.a.y, .slice a1 l1 c1, .slice a2 l2 c2]
theorem l6Rec_any (v : V.ValT) (hv : v.Ok) (a1 a2 : Option Addr) (l1 c1 l2 c2 : Nat) (w : World) (hs1 : V.SlA w a1 l1 v.items) (hs2 : V.SlS w a2 l2 v.names) :
    Calls Tryz.prog 35 #[vA v a1 a2 l1 c1 l2 c2] w fun e w' => V.RetB e (v.k = 3 ∧ V.GoodVal v) ∧ Below w.heap.size w w' := by
  have B0 := hide (bAl (Below.refl w.heap.size w) (.cells #[.int .i64 v.k, .int .i64 v.a.x, .int .i64 v.a.n, .string v.a.t, .string v.a.y, .slice a1 l1 c1, .slice a2 l2 c2] 33))
  have q := hide (V.sGoodValue_any v hv a1 a2 l1 c1 l2 c2 (w.alloc (.cells #[.int .i64 v.k, .int .i64 v.a.x, .int .i64 v.a.n, .string v.a.t, .string v.a.y, .slice a1 l1 c1, .slice a2 l2 c2] 33)) (hs1.keep (unhide B0)) (hs2.keep (unhide B0)))
  clear hs1 hs2 hv
  generalize V.GoodVal v = GV at *
  by_cases hk : v.k = 3
  · have HK := hide hk
    have dk : (v.k == 3) = true := by simpa using hk
    clear hk
    go_enter Tryz.func35, Tryz.ntmps35
    go_wp2_with fail
    refine (unhide q).mono ?_
    rintro e w1 ⟨⟨b, rfl, hb⟩, hb1⟩
    have HB := hide hb
    have B1 := hide (bTr (unhide B0) hb1)
    clear hb hb1 q
    go_wp2_with fail
    go_ret
    exact ⟨V.retB (by rw [unhide HB]; exact ⟨fun h => ⟨unhide HK, h⟩, fun h => h.2⟩), unhide B1⟩
  · have dk : (v.k == 3) = false := by simpa using hk
    have HK := hide hk
    clear hk
    go_enter Tryz.func35, Tryz.ntmps35
    go_wp2_with fail
    go_ret
    exact ⟨V.retB (b := false) ⟨fun h => (by cases h), fun h => absurd h.1 (unhide HK)⟩, unhide B0⟩
-- GEN
theorem between_any (a b c : Int) (w : World) : Calls Tryz.prog 48 #[.int .i64 a, .int .i64 b, .int .i64 c] w fun e w' => e = .returned (.bool (decide (a ≤ b ∧ b ≤ c))) ∧ w = w' := by
  go_enter Tryz.func48, Tryz.ntmps48
  go_wp2
  all_goals go_ret
  all_goals refine ⟨congrArg (fun b => Ending.returned (.bool b)) ?_, rfl⟩
  all_goals (rw [Bool.eq_iff_iff]; simp; try omega)
def ClP (v : V.ValT) : Prop := v.k = 3 ∧ V.GoodVal v ∧ (V.valL v).length ≤ 4000
theorem valL_one {v : V.ValT} (h : v.k = 3) : 1 ≤ (V.valL v).length := by
  unfold V.valL
  rw [if_neg (by omega), if_pos h]
  simp
theorem lsz (l : List UInt8) : (⟨l.toArray⟩ : ByteArray).size = l.length := by show l.toArray.size = _; simp
theorem data_len (v : ByteArray) : v.data.toList.length = v.size := by show _ = v.data.size; simp
theorem idB_le {s : ByteArray} (h : idB s = true) : s.size ≤ 40 := by
  rcases Nat.lt_or_ge 40 s.size with h2 | h2
  · rw [idB_size (.inr h2)] at h; cases h
  · exact h2
theorem row_slB {w : World} {b : Nat} {l : List UInt8} (h : RowIs w b (cellsOf l) 5) : SlB w w.heap.size (some ⟨b, 0, none⟩) l.length l := by
  refine ⟨rfl, .inr ⟨b, 0, rfl, h.lt, h.lt, fun i hi => ?_⟩⟩
  rw [Nat.zero_add, h.cell]
  simp [cellsOf, hi]
set_option maxHeartbeats 1000000 in
theorem l17Claims_any (v : V.ValT) (hv : v.Ok) (a1 a2 : Option Addr) (l1 c1 l2 c2 : Nat) (w : World) (hs1 : V.SlA w a1 l1 v.items) (hs2 : V.SlS w a2 l2 v.names) :
    Calls Tryz.prog 14 #[vA v a1 a2 l1 c1 l2 c2] w fun e w' => V.RetB e (ClP v) ∧ Below w.heap.size w w' := by
  have q1 := hide (fun w h1 h2 => l6Rec_any v hv a1 a2 l1 c1 l2 c2 w h1 h2)
  have q2 := hide (fun w h1 h2 hg => V.sValueText_yes v hv a1 a2 l1 c1 l2 c2 w h1 h2 hg)
  have hP : Hid (ClP v ↔ (v.k = 3 ∧ V.GoodVal v) ∧ (V.valL v).length ≤ 4000) := hide ⟨fun h => ⟨⟨h.1, h.2.1⟩, h.2.2⟩, fun h => ⟨h.1.1, h.1.2, h.2⟩⟩
  have hz := lsz (V.valL v)
  generalize ClP v = CP at hP ⊢
  generalize (⟨(V.valL v).toArray⟩ : ByteArray) = X at q2 hz
  generalize (V.valL v).length = n at hP hz
  clear hv
  obtain ⟨W, hW⟩ : ∃ W, W = w.alloc (.cells #[.int .i64 v.k, .int .i64 v.a.x, .int .i64 v.a.n, .string v.a.t, .string v.a.y, .slice a1 l1 c1, .slice a2 l2 c2] 33) := ⟨_, rfl⟩
  have B := hide (show Below w.heap.size w W by rw [hW]; exact bAl (Below.refl _ _) _)
  have R := hide (show RowIs W w.heap.size #[.int .i64 v.k, .int .i64 v.a.x, .int .i64 v.a.n, .string v.a.t, .string v.a.y, .slice a1 l1 c1, .slice a2 l2 c2] 33 by rw [hW]; exact RowIs.new _ _ _)
  have S1 := hide (hs1.keep (unhide B))
  have S2 := hide (hs2.keep (unhide B))
  have HW := hide hW.symm
  clear hW hs1 hs2
  go_enter Tryz.func14, Tryz.ntmps14
  go_wp2_with fail
  rw [unhide HW]
  refine (unhide q1 _ (unhide S1) (unhide S2)).mono ?_
  rintro e w1 ⟨⟨b, rfl, hb⟩, hb1⟩
  have B1 := hide (bTr (unhide B) hb1)
  have R1 := hide ((unhide R).keep hb1)
  have T1 := hide ((unhide S1).keep hb1)
  have T2 := hide ((unhide S2).keep hb1)
  have HB := hide hb
  clear hb hb1 B R S1 S2 HW q1
  have y0 := (unhide R1).at (o := 0) (v := .int .i64 v.k) rfl
  have y1 := (unhide R1).at (o := 1) (v := .int .i64 v.a.x) rfl
  have y2 := (unhide R1).at (o := 2) (v := .int .i64 v.a.n) rfl
  have y3 := (unhide R1).at (o := 3) (v := .string v.a.t) rfl
  have y4 := (unhide R1).at (o := 4) (v := .string v.a.y) rfl
  have y5 := (unhide R1).at (o := 5) (v := .slice a1 l1 c1) rfl
  have y6 := (unhide R1).at (o := 6) (v := .slice a2 l2 c2) rfl
  cases b
  · go_wp2_with fail
    go_ret
    exact ⟨V.retB (b := false) ⟨fun h => (by cases h), fun h => absurd ((unhide HB).2 ((unhide hP).1 h).1) (by simp)⟩, unhide B1⟩
  · go_wp2_with fail
    refine (unhide q2 _ (unhide T1) (unhide T2) ((unhide HB).1 (by trivial)).2).mono ?_
    rintro e w2 ⟨rfl, hb2⟩
    have B2 := hide (bTr (unhide B1) hb2)
    have hN := hide hz
    clear hb2 hz
    go_wp2_with fail
    go_ret
    exact ⟨V.retB (b := decide ((X.size : Int) ≤ 4000)) (by rw [decide_eq_true_iff, unhide hP]; exact ⟨fun h => ⟨(unhide HB).1 (by trivial), by have := unhide hN; omega⟩, fun h => by have := h.2; have := unhide hN; omega⟩), unhide B2⟩
set_option maxHeartbeats 1000000 in
theorem isClaims_any (v : V.ValT) (t : ByteArray) (a1 a2 : Option Addr) (l1 c1 l2 c2 : Nat) (w : World) :
    Calls Tryz.prog 25 #[vA v a1 a2 l1 c1 l2 c2, .string t] w fun e w' => e = .returned (.bool (decide (v.k = 3 ∧ (1 : Int) ≤ t.size ∧ (t.size : Int) ≤ 4000))) ∧ Below w.heap.size w w' := by
  have B := hide (bAl (Below.refl w.heap.size w) (.cells #[.int .i64 v.k, .int .i64 v.a.x, .int .i64 v.a.n, .string v.a.t, .string v.a.y, .slice a1 l1 c1, .slice a2 l2 c2] 33))
  have q := hide (fun w => between_any 1 t.size 4000 w)
  by_cases hk : v.k = 3
  · have e : decide (v.k = 3 ∧ (1 : Int) ≤ t.size ∧ (t.size : Int) ≤ 4000) = decide ((1 : Int) ≤ t.size ∧ (t.size : Int) ≤ 4000) := by simp [hk]
    rw [e]
    generalize decide ((1 : Int) ≤ t.size ∧ (t.size : Int) ≤ 4000) = d at q ⊢
    have dk : (v.k == 3) = true := by simpa using hk
    clear hk e
    go_enter Tryz.func25, Tryz.ntmps25
    go_wp2_with fail
    refine (unhide q _).mono ?_
    rintro e w1 ⟨rfl, rfl⟩
    go_wp2_with fail
    go_ret
    exact ⟨rfl, unhide B⟩
  · have e : decide (v.k = 3 ∧ (1 : Int) ≤ t.size ∧ (t.size : Int) ≤ 4000) = false := by simp [hk]
    rw [e]
    have dk : (v.k == 3) = false := by simpa using hk
    clear hk e
    go_enter Tryz.func25, Tryz.ntmps25
    go_wp2_with fail
    go_ret
    exact ⟨rfl, unhide B⟩
/-- The head of a token, and the token. -/
def thd (kid : ByteArray) (L : List UInt8) : ByteArray := (⟨#[118, 49, 126]⟩ : ByteArray) ++ kid ++ (⟨#[126]⟩ : ByteArray) ++ ⟨(arm L).toArray⟩
def tks (s : Nat) (h : ByteArray) : List UInt8 := bytes4 (rN s h.data.toList) ++ bytes4 (zN s h.data.toList)
def tkn (s : Nat) (kid : ByteArray) (L : List UInt8) : ByteArray := thd kid L ++ (⟨#[126]⟩ : ByteArray) ++ ⟨(arm (tks s (thd kid L))).toArray⟩
def StP (s : Int) (kid : ByteArray) (v : V.ValT) : Prop := secB s = true ∧ idB kid = true ∧ ClP v
structure TokIs (s : Int) (kid : ByteArray) (v : V.ValT) (T : ByteArray) : Prop where
  yes : StP s kid v → T = tkn s.toNat kid (V.valL v)
  no : ¬ StP s kid v → T = ⟨#[]⟩
theorem TokIs.uniq {s : Int} {kid : ByteArray} {v : V.ValT} {T T' : ByteArray} (h : TokIs s kid v T) (h' : TokIs s kid v T') : T = T' := by
  by_cases g : StP s kid v
  · rw [h.yes g, h'.yes g]
  · rw [h.no g, h'.no g]
/-- What SignToken answers. -/
def TokRet (s : Int) (kid : ByteArray) (v : V.ValT) (e : Ending) : Prop := ∃ T, TokIs s kid v T ∧ e = .returned (.string T)
theorem tks_len (s : Nat) (h : ByteArray) : (tks s h).length = 8 := by simp [tks, bytes4]
theorem thd_size (kid : ByteArray) (L : List UInt8) (hk : kid.size ≤ 40) (hL : L.length ≤ 4000) : (thd kid L).size ≤ 6500 := by
  unfold thd
  rw [ByteArray.size_append, ByteArray.size_append, ByteArray.size_append, lsz]
  have h3 : (arm L).length ≤ 6401 := by rw [arm_len]; unfold many; omega
  show 3 + kid.size + 1 + (arm L).length ≤ 6500
  omega
theorem takeD {P : Program} {ops : Array Oper} {Q : Exit → Act → World → Prop} {md : Region.Mode} {S : World → Prop} {i : Nat} {oi : Oper} {v : Value} {d : Option Tmp} {fuel : Nat} {listed : Array Bool} {a : Act} {w : World} (hi : ops[i]? = some oi) (hd : oi.dst = d)
    (hs : Region.noSelect ops = true) (hf : Region.free md ops listed i = true) (hr : (Region.ready md ops listed).contains i = true)
    (hQ : ∀ c a w, Q (.panic c) (a.put oi.dst v) w → Q (.panic c) a w) (hy : YieldsIf P ops S oi v a) (hS : S w)
    (h : wpAnyH P md ops Q S fuel (listed.setIfInBounds i true) (a.put d v) w) : wpAnyH P md ops Q S (fuel + 1) listed a w := by
  subst hd
  exact wpAnyH_take hi hs hf hr hQ hy hS h
theorem undrewT {w w' : World} (h : Below w.drew.heap.size w.drew w') : Below w.heap.size w w' := bTr ((Below.refl _ _).drew) h
theorem twoT {w' : World} {b : Nat} {r z : Nat} (h : RowIs w' b #[.int .i64 (r : Int), .int .i64 (z : Int)] 47) : w'.cell? ⟨b, 0, none⟩ = some (.int .i64 (r : Int)) ∧ w'.cell? ⟨b, 1, none⟩ = some (.int .i64 (z : Int)) := ⟨h.at rfl, h.at rfl⟩
theorem b4_len (n : Nat) : (bytes4 n).length = 4 := by simp [bytes4]
set_option maxHeartbeats 8000000 in
theorem sSignToken_any (s : Int) (kid : ByteArray) (v : V.ValT) (hv : v.Ok) (a1 a2 : Option Addr) (l1 c1 l2 c2 : Nat) (w : World) (hs1 : V.SlA w a1 l1 v.items) (hs2 : V.SlS w a2 l2 v.names) (hl : l1 ≤ maxLen) (hk : kid.size ≤ maxLen) :
    Calls Tryz.prog 5 #[.int .i64 s, .string kid, vA v a1 a2 l1 c1 l2 c2] w fun e w' => TokRet s kid v e ∧ Below w.heap.size w w' := by
  obtain ⟨i0, hi, hz0, hz1, hz2⟩ := info_parts info_u8
  have q0 := hide (fun w => sSecret_any s w)
  have q1 := hide (fun w => l7Id_any kid hk w)
  have q2 := hide (fun w h1 h2 => l17Claims_any v hv a1 a2 l1 c1 l2 c2 w h1 h2)
  have q3 := hide (fun w h1 h2 hg => V.sValueText_yes v hv a1 a2 l1 c1 l2 c2 w h1 h2 hg)
  obtain ⟨W, hW⟩ : ∃ W, W = w.alloc (.cells #[.int .i64 v.k, .int .i64 v.a.x, .int .i64 v.a.n, .string v.a.t, .string v.a.y, .slice a1 l1 c1, .slice a2 l2 c2] 33) := ⟨_, rfl⟩
  have B := hide (show Below w.heap.size w W by rw [hW]; exact bAl (Below.refl _ _) _)
  have R := hide (show RowIs W w.heap.size #[.int .i64 v.k, .int .i64 v.a.x, .int .i64 v.a.n, .string v.a.t, .string v.a.y, .slice a1 l1 c1, .slice a2 l2 c2] 33 by rw [hW]; exact RowIs.new _ _ _)
  have S1 := hide (hs1.keep (unhide B))
  have S2 := hide (hs2.keep (unhide B))
  have HW := hide hW.symm
  clear hW hs1 hs2
  have HK := hide hk
  clear hk hv
  go_enter Tryz.func5, Tryz.ntmps5
  go_wp2_with fail
  rw [unhide HW]
  refine (unhide q0 _).mono ?_
  rintro e w0 ⟨rfl, rfl⟩
  cases g0 : secB s
  · go_wp2_with fail
    go_ret
    exact ⟨⟨_, ⟨fun h => absurd h (fun h => by have := h.1; rw [g0] at this; cases this), fun _ => rfl⟩, rfl⟩, unhide B⟩
  have G0 := hide g0
  clear g0
  go_wp2_with fail
  refine (unhide q1 _).mono ?_
  rintro e w1 ⟨rfl, hb1⟩
  have B1 := hide (bTr (unhide B) hb1)
  have R1 := hide ((unhide R).keep hb1)
  have T1 := hide ((unhide S1).keep hb1)
  have T2 := hide ((unhide S2).keep hb1)
  clear hb1 B R S1 S2 HW q0 q1
  cases g1 : idB kid
  · go_wp2_with fail
    go_ret
    exact ⟨⟨_, ⟨fun h => absurd h (fun h => by have := h.2.1; rw [g1] at this; cases this), fun _ => rfl⟩, rfl⟩, unhide B1⟩
  have y0 := (unhide R1).at (o := 0) (v := .int .i64 v.k) rfl
  have y1 := (unhide R1).at (o := 1) (v := .int .i64 v.a.x) rfl
  have y2 := (unhide R1).at (o := 2) (v := .int .i64 v.a.n) rfl
  have y3 := (unhide R1).at (o := 3) (v := .string v.a.t) rfl
  have y4 := (unhide R1).at (o := 4) (v := .string v.a.y) rfl
  have y5 := (unhide R1).at (o := 5) (v := .slice a1 l1 c1) rfl
  have y6 := (unhide R1).at (o := 6) (v := .slice a2 l2 c2) rfl
  have G1 := hide g1
  have zk := idB_le g1
  clear g1
  go_wp2_with fail
  refine (unhide q2 _ (unhide T1) (unhide T2)).mono ?_
  rintro e w2 ⟨⟨b, rfl, hb⟩, hb2⟩
  have B2 := hide (bTr (unhide B1) hb2)
  have R2 := hide ((unhide R1).keep hb2)
  have U1 := hide ((unhide T1).keep hb2)
  have U2 := hide ((unhide T2).keep hb2)
  have HB := hide hb
  clear hb hb2 B1 R1 T1 T2 q2 y0 y1 y2 y3 y4 y5 y6
  cases b
  · go_wp2_with fail
    go_ret
    exact ⟨⟨_, ⟨fun h => absurd h (fun h => by have := (unhide HB).2 h.2.2; cases this), fun _ => rfl⟩, rfl⟩, unhide B2⟩
  have y0 := (unhide R2).at (o := 0) (v := .int .i64 v.k) rfl
  have y1 := (unhide R2).at (o := 1) (v := .int .i64 v.a.x) rfl
  have y2 := (unhide R2).at (o := 2) (v := .int .i64 v.a.n) rfl
  have y3 := (unhide R2).at (o := 3) (v := .string v.a.t) rfl
  have y4 := (unhide R2).at (o := 4) (v := .string v.a.y) rfl
  have y5 := (unhide R2).at (o := 5) (v := .slice a1 l1 c1) rfl
  have y6 := (unhide R2).at (o := 6) (v := .slice a2 l2 c2) rfl
  have hC := (unhide HB).1 (by trivial)
  have HL := hide hl
  clear hl
  have OK := hide (show StP s kid v from ⟨unhide G0, unhide G1, hC⟩)
  have zL := lsz (V.valL v)
  have zC := hC.2.2
  have GV := hide hC.2.1
  have k1 : ¬ 9223372036854775804 < kid.size := by omega
  have k2 : kid.size ≤ 9223372036854775804 := by omega
  go_wp2_with fail
  refine (unhide q3 _ (unhide U1) (unhide U2) (unhide GV)).mono ?_
  rintro e w3 ⟨rfl, hb3⟩
  have B3 := hide (bTr (unhide B2) hb3)
  obtain ⟨sn, hsn, sn1, sn2⟩ := secB_nat (unhide G0)
  subst hsn
  have eT := hide (show tkn (Int.toNat (sn : Int)) kid (V.valL v) = thd kid (V.valL v) ++ (⟨#[126]⟩ : ByteArray) ++ ⟨(arm (tks sn (thd kid (V.valL v)))).toArray⟩ by unfold tkn; rw [Int.toNat_natCast])
  have TI : Hid (∀ T, T = tkn (Int.toNat (sn : Int)) kid (V.valL v) → TokIs (sn : Int) kid v T) := hide (fun T h => ⟨fun _ => h, fun g => absurd (unhide OK) g⟩)
  have zh := thd_size kid (V.valL v) zk zC
  have eH := hide (show (⟨#[118, 49, 126]⟩ : ByteArray) ++ kid ++ (⟨#[126]⟩ : ByteArray) ++ ⟨(arm (V.valL v)).toArray⟩ = thd kid (V.valL v) from rfl)
  have zr : (arm (V.valL v)).length ≤ 6401 := by rw [arm_len]; unfold many; omega
  have zR := lsz (arm (V.valL v))
  have eX := hide (show (⟨(V.valL v).toArray⟩ : ByteArray).data.toList = V.valL v by simp)
  generalize tkn (Int.toNat (sn : Int)) kid (V.valL v) = TT at eT TI
  generalize thd kid (V.valL v) = TH at eT eH zh
  generalize V.valL v = L at eT eH zL zC zr zR eX ⊢
  generalize (⟨L.toArray⟩ : ByteArray) = X at zL eX ⊢
  have zX : X.size ≤ 4000 := by omega
  have zA : (⟨(arm L).toArray⟩ : ByteArray).size ≤ 6401 := by omega
  have k3 : ¬ 9223372036854775806 < TH.size := by omega
  have k4 : TH.size ≤ 9223372036854775806 := by omega
  clear zL zR zr zC
  obtain ⟨cap, w4, cv, hb4, hs4⟩ := conv_bytes X w3
  rw [unhide eX] at hs4
  have S4 := hide hs4
  have B4 := hide (bTr (unhide B3) hb4)
  clear hb3 hb4 hs4 B2 B3 R2 U1 U2 q3 y0 y1 y2 y3 y4 y5 y6 HB hC
  go_wp2_with fail
  refine (l2Armor_any _ X.size _ L _ (by omega) (unhide S4)).mono ?_
  rintro e w5 ⟨rfl, hb5⟩
  have B5 := hide (bTr (unhide B4) hb5)
  obtain ⟨cap6, w6, cv6, hb6, hs6⟩ := conv_bytes TH w5
  have S6 := hide hs6
  have B6 := hide (bTr (unhide B5) hb6)
  generalize (⟨(arm L).toArray⟩ : ByteArray) = AR at eH zA ⊢
  clear hb5 hb6 hs6 B4 S4 cv
  go_wp2_with fail
  rw [unhide eH, cv6]
  go_wp2_with fail
  refine (l2Sign_any sn _ TH.size _ TH.data.toList _ sn2 (by omega) (unhide S6)).mono ?_
  rintro e w7 ⟨rfl, hb7⟩
  have B7 := hide (bTr (unhide B6) hb7)
  obtain ⟨r, hr⟩ : ∃ r, r = rN sn TH.data.toList := ⟨_, rfl⟩
  obtain ⟨z, hzz⟩ : ∃ z, z = zN sn TH.data.toList := ⟨_, rfl⟩
  have zr1 := rN_lt sn TH.data.toList
  have zz1 := zN_lt sn TH.data.toList
  have eS := hide (show tks sn TH = bytes4 r ++ bytes4 z by unfold tks; rw [← hr, ← hzz])
  rw [← hr] at zr1 ⊢
  rw [← hzz] at zz1 ⊢
  generalize tks sn TH = TS at eT eS
  clear hb7 hr hzz B6 S6
  go_wp2_with fail
  obtain ⟨W8, hW8⟩ : ∃ W, W = w7.alloc (.cells #[.int .i64 (r : Int), .int .i64 (z : Int)] 47) := ⟨_, rfl⟩
  have B8 := hide (show Below w.heap.size w W8 by rw [hW8]; exact bAl (unhide B7) _)
  have R8 := hide (show RowIs W8 w7.heap.size #[.int .i64 (r : Int), .int .i64 (z : Int)] 47 by rw [hW8]; exact RowIs.new _ _ _)
  rw [← hW8]
  clear hW8 B7
  have z126 : (⟨#[126]⟩ : ByteArray).size = 1 := rfl
  have eL := hide (show TS.length = 8 by rw [unhide eS]; simp [bytes4])
  refine wp_region_held_drew (S := fun w' => w'.cell? ⟨w7.heap.size, 0, none⟩ = some (.int .i64 (r : Int)) ∧ w'.cell? ⟨w7.heap.size, 1, none⟩ = some (.int .i64 (z : Int))) (by kernel_rfl) (twoT (unhide R8)) (fun hHeld => ?_)
  refine takeD (i := 0) (v := .string TH) (d := some 34) rfl (by kernel_rfl) (by kernel_rfl) (by kernel_rfl) (by kernel_rfl) (fun _ _ _ h => h) (.inl ⟨by kernel_rfl, fun w hSw => ?_⟩) (by assumption) ?_
  · obtain ⟨s0, s1⟩ := hSw
    go_simp
  try simp only [Act.put, List.setIfInBounds_toArray, List.set_cons_zero, List.set_cons_succ]
  refine takeD (i := 1) (v := .string (TH ++ (⟨#[126]⟩ : ByteArray))) (d := some 35) rfl (by kernel_rfl) (by kernel_rfl) (by kernel_rfl) (by kernel_rfl) (fun _ _ _ h => h) (.inl ⟨by kernel_rfl, fun w hSw => ?_⟩) (by assumption) ?_
  · obtain ⟨s0, s1⟩ := hSw
    go_simp
    all_goals ((try simp only [ByteArray.size_append, z126]); omega)
  try simp only [Act.put, List.setIfInBounds_toArray, List.set_cons_zero, List.set_cons_succ]
  refine takeD (i := 2) (v := .pointer (some ⟨w7.heap.size, 0, none⟩)) (d := some 36) rfl (by kernel_rfl) (by kernel_rfl) (by kernel_rfl) (by kernel_rfl) (fun _ _ _ h => h) (.inl ⟨by kernel_rfl, fun w hSw => ?_⟩) (by assumption) ?_
  · obtain ⟨s0, s1⟩ := hSw
    go_simp
  try simp only [Act.put, List.setIfInBounds_toArray, List.set_cons_zero, List.set_cons_succ]
  refine takeD (i := 3) (v := .int .i64 (r : Int)) (d := some 37) rfl (by kernel_rfl) (by kernel_rfl) (by kernel_rfl) (by kernel_rfl) (fun _ _ _ h => h) (.inl ⟨by kernel_rfl, fun w hSw => ?_⟩) (by assumption) ?_
  · obtain ⟨s0, s1⟩ := hSw
    go_simp
  try simp only [Act.put, List.setIfInBounds_toArray, List.set_cons_zero, List.set_cons_succ]
  refine takeD (i := 5) (v := .pointer (some ⟨w7.heap.size, 1, none⟩)) (d := some 39) rfl (by kernel_rfl) (by kernel_rfl) (by kernel_rfl) (by kernel_rfl) (fun _ _ _ h => h) (.inl ⟨by kernel_rfl, fun w hSw => ?_⟩) (by assumption) ?_
  · obtain ⟨s0, s1⟩ := hSw
    go_simp
  try simp only [Act.put, List.setIfInBounds_toArray, List.set_cons_zero, List.set_cons_succ]
  refine takeD (i := 6) (v := .int .i64 (z : Int)) (d := some 40) rfl (by kernel_rfl) (by kernel_rfl) (by kernel_rfl) (by kernel_rfl) (fun _ _ _ h => h) (.inl ⟨by kernel_rfl, fun w hSw => ?_⟩) (by assumption) ?_
  · obtain ⟨s0, s1⟩ := hSw
    go_simp
  try simp only [Act.put, List.setIfInBounds_toArray, List.set_cons_zero, List.set_cons_succ]
  refine wpAnyH_ready (rs := [4]) (by kernel_rfl) (by simp) ?_
  refine AllReadyH.cons (by rfl) (fun K hK => ?_) AllReadyH.nil
  go_simp
  refine (l2Bytes_any r _ (by omega)).mono ?_
  rintro e w9 ⟨rfl, hr9, hb9⟩
  have E9 := hide (undrewT hb9)
  have Q9 := hide (show RowIs w9 W8.heap.size (cellsOf (bytes4 r)) 5 from hr9)
  clear hr9 hb9 hHeld
  try dsimp only
  refine hK.out _ _ (twoT ((unhide R8).keep (unhide E9))) (fun hH9 => ?_)
  clear hK K
  try simp only [Act.put, List.setIfInBounds_toArray, List.set_cons_zero, List.set_cons_succ]
  refine wpAnyH_ready (rs := [7]) (by kernel_rfl) (by simp) ?_
  refine AllReadyH.cons (by rfl) (fun K hK => ?_) AllReadyH.nil
  go_simp
  refine (l2Bytes_any z _ (by omega)).mono ?_
  rintro e w10 ⟨rfl, hr10, hb10⟩
  have E10 := hide (bTr (unhide E9) hb10)
  have Q10 := hide ((unhide Q9).keep hb10)
  have P10 := hide hr10
  have z9 := (unhide E9).size
  clear hr10 hb10 hH9 Q9 E9
  try dsimp only
  refine hK.out _ _ (twoT ((unhide R8).keep (unhide E10))) (fun hH10 => ?_)
  clear hK K
  try simp only [Act.put, List.setIfInBounds_toArray, List.set_cons_zero, List.set_cons_succ]
  refine wpAnyH_ready (rs := [8]) (by kernel_rfl) (by simp) ?_
  refine AllReadyH.cons (by rfl) (fun K hK => ?_) AllReadyH.nil
  refine step_append_lies _ (by rfl) _ _ _ (by rfl) W8.heap.size 5 i0 _ 1 1 Tryz.underlying44 hi hz0 hz1 hz2 rfl (by decide) (.slice (some ⟨W8.heap.size, 0, none⟩) 4 4) 4 ((bytes4 r).map byteV) (by rfl) (own_row (unhide Q10) (Nat.le_refl _) (by rw [b4_len]; decide)) ⟨w9.heap.size, 0, none⟩ 4 4 ((bytes4 z).map byteV) (by rfl) (by rfl) (row_news (unhide P10)) one_cell (by omega) (by unfold maxLen; omega) (by omega) (unhide E10).size w10.heap.size rfl ?_
  intro g cap11 w11 hown hgrow _ hlt
  have O11 : w11.ownsRow W8.heap.size 5 1 (.slice (some ⟨g, 0, none⟩) 8 cap11) TS.length (TS.map byteV) := by rw [unhide eS, List.map_append]; exact hown
  obtain ⟨a12, c12, e12, s12⟩ := own_sl O11
  simp only [Value.slice.injEq] at e12
  obtain ⟨rfl, e8, rfl⟩ := e12
  have S12 := hide (show SlB w11 w11.heap.size (some ⟨g, 0, none⟩) 8 TS by have := s12; rw [← e8] at this; exact this)
  have E11 := hide ((unhide E10).grown hgrow (unhide E10).size (fun j hj => by cases hj; exact Nat.le_refl _))
  clear O11 s12 e8 hown hgrow hH10 Q10 P10 E10
  try dsimp only
  refine hK.out _ _ (twoT ((unhide R8).keep (unhide E11))) (fun hH11 => ?_)
  clear hK K
  try simp only [Act.put, List.setIfInBounds_toArray, List.set_cons_zero, List.set_cons_succ]
  refine wpAnyH_ready (rs := [9]) (by kernel_rfl) (by simp) ?_
  refine AllReadyH.cons (by rfl) (fun K hK => ?_) AllReadyH.nil
  go_simp
  refine (l2Armor_any _ 8 _ TS _ (by omega) (unhide S12)).mono ?_
  rintro e w12 ⟨rfl, hb12⟩
  have E12 := hide (bTr (unhide E11) hb12)
  clear hb12 hH11
  try dsimp only
  refine hK.out _ _ (twoT ((unhide R8).keep (unhide E12))) (fun hH12 => ?_)
  clear hK K
  try simp only [Act.put, List.setIfInBounds_toArray, List.set_cons_zero, List.set_cons_succ]
  have zA2 : (⟨(arm TS).toArray⟩ : ByteArray).size ≤ 100 := by rw [lsz, arm_len, unhide eL]; decide
  generalize (⟨(arm TS).toArray⟩ : ByteArray) = AR2 at eT zA2 ⊢
  refine takeD (i := 10) (v := .string (TH ++ (⟨#[126]⟩ : ByteArray) ++ AR2)) (d := some 44) rfl (by kernel_rfl) (by kernel_rfl) (by kernel_rfl) (by kernel_rfl) (fun _ _ _ h => h) (.inl ⟨by kernel_rfl, fun w hSw => ?_⟩) (by assumption) ?_
  · obtain ⟨s0, s1⟩ := hSw
    go_simp
    all_goals ((try simp only [ByteArray.size_append, z126]); omega)
  try simp only [Act.put, List.setIfInBounds_toArray, List.set_cons_zero, List.set_cons_succ]
  refine takeD (i := 11) (v := .string (TH ++ (⟨#[126]⟩ : ByteArray) ++ AR2)) (d := some 6) rfl (by kernel_rfl) (by kernel_rfl) (by kernel_rfl) (by kernel_rfl) (fun _ _ _ h => h) (.inl ⟨by kernel_rfl, fun w hSw => ?_⟩) (by assumption) ?_
  · obtain ⟨s0, s1⟩ := hSw
    go_simp
  try simp only [Act.put, List.setIfInBounds_toArray, List.set_cons_zero, List.set_cons_succ]
  refine wpAnyH_done (by kernel_rfl) ?_ _
  go_wp2_with fail
  go_ret
  exact ⟨⟨_, unhide TI _ (unhide eT).symm, rfl⟩, bTr (unhide B8) (unhide E12)⟩
theorem cl_iff {v : V.ValT} {X : ByteArray} (h1 : V.GoodVal v → X = ⟨(V.valL v).toArray⟩) (h2 : ¬ V.GoodVal v → X = ⟨#[]⟩) : (v.k = 3 ∧ (1 : Int) ≤ X.size ∧ (X.size : Int) ≤ 4000) ↔ ClP v := by
  by_cases hg : V.GoodVal v
  · have e : X.size = (V.valL v).length := by rw [h1 hg, lsz]
    constructor
    · rintro ⟨a, b, c⟩; exact ⟨a, hg, by omega⟩
    · rintro ⟨a, b, c⟩; have := valL_one a; exact ⟨a, by omega, by omega⟩
  · have e : X.size = 0 := by rw [h2 hg]; rfl
    constructor
    · rintro ⟨a, b, c⟩; omega
    · rintro ⟨a, b, c⟩; exact absurd b hg
theorem iText_x (v : V.ValT) (hv : v.Ok) (a1 a2 : Option Addr) (l1 c1 l2 c2 : Nat) (hl : l1 ≤ maxLen) : ∃ X : ByteArray, (V.GoodVal v → X = ⟨(V.valL v).toArray⟩) ∧ (¬ V.GoodVal v → X = ⟨#[]⟩) ∧ ∀ w : World, V.SlA w a1 l1 v.items → V.SlS w a2 l2 v.names → Tab w →
    Calls Tryz.prog 22 #[.agg #[.int .i64 v.k, .int .i64 v.a.x, .int .i64 v.a.n, .string v.a.t, .string v.a.y, .slice a1 l1 c1, .slice a2 l2 c2]] w fun e w' => e = .returned (.string X) ∧ Below w.heap.size w w' := by
  by_cases hg : V.GoodVal v
  · exact ⟨_, fun _ => rfl, fun h => absurd hg h, fun w h1 h2 hT => V.iValueText_yes v hv a1 a2 l1 c1 l2 c2 w hl hT h1 h2 hg⟩
  · exact ⟨_, fun h => absurd h hg, fun _ => rfl, fun w h1 h2 hT => V.iValueText_not v hv a1 a2 l1 c1 l2 c2 w hl h1 h2 hg⟩
theorem conv_bytes2 (s : ByteArray) (w : World) (hs : s.size ≤ 1000000) : ∃ cap w1, (convert 9 44 (.string s)).run Tryz.prog w = .ok (.slice (some ⟨w.heap.size, 0, none⟩) s.size cap) w1 ∧ Below w.heap.size w w1 ∧ SlB w1 w1.heap.size (some ⟨w.heap.size, 0, none⟩) s.size s.data.toList ∧ s.size ≤ cap ∧ cap ≤ maxLen := by
  refine ⟨_, _, run_bytes_of_string (P := Tryz.prog) w 9 44 5 s Tryz.underlying9 Tryz.underlying44 Tryz.underlying5, ((Below.refl _ _).drew).alloc (Nat.le_refl _) _, ?_, grownCap_ge _ _ _ _, grownCap_le_maxLen _ _ _ _ (by unfold maxLen; omega)⟩
  have e : s.size = s.data.toList.length := by show s.data.size = _; simp
  refine ⟨e, .inr ⟨_, 0, rfl, by simp, by simp, ?_⟩⟩
  intro j h
  have h' : w.drew.heap.size = w.heap.size := rfl
  have h2 : j < s.data.size := by simpa using h
  rw [← h', Nat.zero_add, World.cell?_alloc_mark]
  unfold bytesRow
  rw [Array.getElem?_append_left (by simpa using h2)]
  simp only [Array.getElem?_map, Array.getElem?_eq_getElem h2, Option.map_some]
  rfl
theorem sgR_yes {s : Nat} {d : List UInt8} (h : secB (s : Int) = true) (hd : d.length ≤ 20000) : sgR (s : Int) d = rN s d := by
  have := (sg_yes (s := (s : Int)) (d := d) ⟨h, hd⟩).1
  rw [Int.toNat_natCast] at this; exact this
theorem sgZ_yes {s : Nat} {d : List UInt8} (h : secB (s : Int) = true) (hd : d.length ≤ 20000) : sgZ (s : Int) d = zN s d := by
  have := (sg_yes (s := (s : Int)) (d := d) ⟨h, hd⟩).2
  rw [Int.toNat_natCast] at this; exact this
set_option maxHeartbeats 8000000 in
theorem iSignToken_any (s : Int) (kid : ByteArray) (v : V.ValT) (hv : v.Ok) (a1 a2 : Option Addr) (l1 c1 l2 c2 : Nat) (w : World) (hs1 : V.SlA w a1 l1 v.items) (hs2 : V.SlS w a2 l2 v.names) (hl : l1 ≤ maxLen) (hk : kid.size ≤ maxLen) (hM : Mults w) (hT : Tab w) :
    Calls Tryz.prog 7 #[.int .i64 s, .string kid, vA v a1 a2 l1 c1 l2 c2] w fun e w' => TokRet s kid v e ∧ Below w.heap.size w w' := by
  have q0 := hide (fun w => iSecret_any s w)
  have q1 := hide (fun w => isId_any kid hk w)
  have HM := hide hM
  have HT := hide hT
  obtain ⟨X, x1, x2, qv0⟩ := iText_x v hv a1 a2 l1 c1 l2 c2 hl
  have qv := hide qv0
  have XI := hide (cl_iff x1 x2)
  have X1 := hide x1
  have q2 := hide (fun w => isClaims_any v X a1 a2 l1 c1 l2 c2 w)
  clear qv0 x1 x2 hM hT
  obtain ⟨W, hW⟩ : ∃ W, W = w.alloc (.cells #[.int .i64 v.k, .int .i64 v.a.x, .int .i64 v.a.n, .string v.a.t, .string v.a.y, .slice a1 l1 c1, .slice a2 l2 c2] 33) := ⟨_, rfl⟩
  have B := hide (show Below w.heap.size w W by rw [hW]; exact bAl (Below.refl _ _) _)
  have R := hide (show RowIs W w.heap.size #[.int .i64 v.k, .int .i64 v.a.x, .int .i64 v.a.n, .string v.a.t, .string v.a.y, .slice a1 l1 c1, .slice a2 l2 c2] 33 by rw [hW]; exact RowIs.new _ _ _)
  have S1 := hide (hs1.keep (unhide B))
  have S2 := hide (hs2.keep (unhide B))
  have HW := hide hW.symm
  clear hW hs1 hs2
  replace HM := hide ((unhide HM).keepB (unhide B) (unhide HM).1)
  replace HT := hide ((show Tab w from unhide HT).keep (unhide B))
  clear hk hv hl
  go_enter Tryz.func7, Tryz.ntmps7
  go_wp2_with fail
  rw [unhide HW]
  refine (unhide qv _ (unhide S1) (unhide S2) (unhide HT)).mono ?_
  rintro e wa ⟨rfl, hba⟩
  have Ba := hide (bTr (unhide B) hba)
  have Ra := hide ((unhide R).keep hba)
  replace HM := hide ((unhide HM).keepB hba (unhide HM).1)
  clear hba B R S1 S2 HW qv HT
  go_wp2_with fail
  refine (unhide q0 _).mono ?_
  rintro e w0 ⟨rfl, rfl⟩
  cases g0 : secB s
  · go_wp2_with fail
    go_ret
    exact ⟨⟨_, ⟨fun h => absurd h (fun h => by have := h.1; rw [g0] at this; cases this), fun _ => rfl⟩, rfl⟩, unhide Ba⟩
  have G0 := hide g0
  clear g0
  go_wp2_with fail
  refine (unhide q1 _).mono ?_
  rintro e w1 ⟨rfl, hb1⟩
  have B1 := hide (bTr (unhide Ba) hb1)
  have R1 := hide ((unhide Ra).keep hb1)
  replace HM := hide ((unhide HM).keepB hb1 (unhide HM).1)
  clear hb1 Ba Ra q0 q1
  cases g1 : idB kid
  · go_wp2_with fail
    go_ret
    exact ⟨⟨_, ⟨fun h => absurd h (fun h => by have := h.2.1; rw [g1] at this; cases this), fun _ => rfl⟩, rfl⟩, unhide B1⟩
  have y0 := (unhide R1).at (o := 0) (v := .int .i64 v.k) rfl
  have y1 := (unhide R1).at (o := 1) (v := .int .i64 v.a.x) rfl
  have y2 := (unhide R1).at (o := 2) (v := .int .i64 v.a.n) rfl
  have y3 := (unhide R1).at (o := 3) (v := .string v.a.t) rfl
  have y4 := (unhide R1).at (o := 4) (v := .string v.a.y) rfl
  have y5 := (unhide R1).at (o := 5) (v := .slice a1 l1 c1) rfl
  have y6 := (unhide R1).at (o := 6) (v := .slice a2 l2 c2) rfl
  have G1 := hide g1
  have zk := idB_le g1
  clear g1
  go_wp2_with fail
  refine (unhide q2 _).mono ?_
  rintro e w2 ⟨rfl, hb2⟩
  have B2 := hide (bTr (unhide B1) hb2)
  replace HM := hide ((unhide HM).keepB hb2 (unhide HM).1)
  clear hb2 B1 R1 q2 y0 y1 y2 y3 y4 y5 y6
  by_cases hc : v.k = 3 ∧ (1 : Int) ≤ X.size ∧ (X.size : Int) ≤ 4000
  case neg =>
    rw [decide_eq_false hc]
    have HC := hide hc
    clear hc
    go_wp2_with fail
    go_ret
    exact ⟨⟨_, ⟨fun h => absurd h (fun h => unhide HC ((unhide XI).2 h.2.2)), fun _ => rfl⟩, rfl⟩, unhide B2⟩
  rw [decide_eq_true hc]
  have hC := (unhide XI).1 hc
  have OK := hide (show StP s kid v from ⟨unhide G0, unhide G1, hC⟩)
  have eX0 := unhide X1 hC.2.1
  have zC := hC.2.2
  have k1 : ¬ 9223372036854775804 < kid.size := by omega
  have k2 : kid.size ≤ 9223372036854775804 := by omega
  obtain ⟨sn, hsn, sn1, sn2⟩ := secB_nat (unhide G0)
  subst hsn
  have eT := hide (show tkn (Int.toNat (sn : Int)) kid (V.valL v) = thd kid (V.valL v) ++ (⟨#[126]⟩ : ByteArray) ++ ⟨(arm (tks sn (thd kid (V.valL v)))).toArray⟩ by unfold tkn; rw [Int.toNat_natCast])
  have TI : Hid (∀ T, T = tkn (Int.toNat (sn : Int)) kid (V.valL v) → TokIs (sn : Int) kid v T) := hide (fun T h => ⟨fun _ => h, fun g => absurd (unhide OK) g⟩)
  have zh := thd_size kid (V.valL v) zk zC
  have eH := hide (show (⟨#[118, 49, 126]⟩ : ByteArray) ++ kid ++ (⟨#[126]⟩ : ByteArray) ++ ⟨(arm (V.valL v)).toArray⟩ = thd kid (V.valL v) from rfl)
  have zr : (arm (V.valL v)).length ≤ 6401 := by rw [arm_len]; unfold many; omega
  have zR := lsz (arm (V.valL v))
  have eX := hide (show X.data.toList = V.valL v by rw [eX0])
  have zX : X.size ≤ 4000 := by omega
  generalize tkn (Int.toNat (sn : Int)) kid (V.valL v) = TT at eT TI
  generalize thd kid (V.valL v) = TH at eT eH zh
  clear eX0 X1 XI hC hc
  generalize V.valL v = L at eT eH zC zr zR eX
  have zA : (⟨(arm L).toArray⟩ : ByteArray).size ≤ 6401 := by omega
  have eL0 := hide zC
  have k3 : ¬ 9223372036854775806 < TH.size := by omega
  have k4 : TH.size ≤ 9223372036854775806 := by omega
  clear zR zr zC
  obtain ⟨cap, w4, cv, hb4, hs4, hcp4, hcm4⟩ := conv_bytes2 X w2 (by omega)
  rw [unhide eX] at hs4
  have q4 := hide (fun (h : SlB w4 w4.heap.size (some ⟨w2.heap.size, 0, none⟩) X.size L) => iArmor_any (some ⟨w2.heap.size, 0, none⟩) X.size cap L w4 (by unfold maxLen; omega) hcp4 hcm4 h)
  rw [show armD L = arm L from if_pos (by have := unhide eL0; omega)] at q4
  have S4 := hide hs4
  have B4 := hide (bTr (unhide B2) hb4)
  replace HM := hide ((unhide HM).keepB hb4 (unhide HM).1)
  clear hb4 hs4 B2 hcp4 hcm4
  go_wp2_with fail
  refine (unhide q4 (unhide S4)).mono ?_
  rintro e w5 ⟨rfl, hb5⟩
  have B5 := hide (bTr (unhide B4) hb5)
  replace HM := hide ((unhide HM).keepB hb5 (unhide HM).1)
  obtain ⟨cap6, w6, cv6, hb6, hs6⟩ := conv_bytes TH w5
  have S6 := hide hs6
  have B6 := hide (bTr (unhide B5) hb6)
  replace HM := hide ((unhide HM).keepB hb6 (unhide HM).1)
  generalize (⟨(arm L).toArray⟩ : ByteArray) = AR at eH zA ⊢
  clear hb5 hb6 hs6 B4 S4 cv q4
  go_wp2_with fail
  rw [unhide eH, cv6]
  go_wp2_with fail
  refine (iSign_any (sn : Int) _ TH.size _ TH.data.toList _ (by omega) (unhide S6) (unhide HM)).mono ?_
  rintro e w7 ⟨rfl, hb7⟩
  have B7 := hide (bTr (unhide B6) hb7)
  obtain ⟨r, hr⟩ : ∃ r, r = rN sn TH.data.toList := ⟨_, rfl⟩
  obtain ⟨z, hzz⟩ : ∃ z, z = zN sn TH.data.toList := ⟨_, rfl⟩
  have zr1 := rN_lt sn TH.data.toList
  have zz1 := zN_lt sn TH.data.toList
  have eS := hide (show tks sn TH = bytes4 r ++ bytes4 z by unfold tks; rw [← hr, ← hzz])
  have er : sgR (sn : Int) TH.data.toList = r := by rw [hr]; exact sgR_yes (unhide G0) (by rw [data_len]; omega)
  have ez : sgZ (sn : Int) TH.data.toList = z := by rw [hzz]; exact sgZ_yes (unhide G0) (by rw [data_len]; omega)
  rw [er, ez]
  rw [← hr] at zr1
  rw [← hzz] at zz1
  generalize tks sn TH = TS at eT eS
  clear hb7 hr hzz B6 S6 er ez HM
  go_wp2_with fail
  obtain ⟨W8, hW8⟩ : ∃ W, W = w7.alloc (.cells #[.int .i64 (r : Int), .int .i64 (z : Int)] 47) := ⟨_, rfl⟩
  have B8 := hide (show Below w.heap.size w W8 by rw [hW8]; exact bAl (unhide B7) _)
  have R8 := hide (show RowIs W8 w7.heap.size #[.int .i64 (r : Int), .int .i64 (z : Int)] 47 by rw [hW8]; exact RowIs.new _ _ _)
  rw [← hW8]
  clear hW8 B7
  have z126 : (⟨#[126]⟩ : ByteArray).size = 1 := rfl
  have eL := hide (show TS.length = 8 by rw [unhide eS]; simp [bytes4])
  refine wp_region_held_drew (S := fun w' => w'.cell? ⟨w7.heap.size, 0, none⟩ = some (.int .i64 (r : Int)) ∧ w'.cell? ⟨w7.heap.size, 1, none⟩ = some (.int .i64 (z : Int))) (by kernel_rfl) (twoT (unhide R8)) (fun hHeld => ?_)
  refine takeD (i := 0) (v := .string TH) (d := some 37) rfl (by kernel_rfl) (by kernel_rfl) (by kernel_rfl) (by kernel_rfl) (fun _ _ _ h => h) (.inl ⟨by kernel_rfl, fun w hSw => ?_⟩) (by assumption) ?_
  · obtain ⟨s0, s1⟩ := hSw
    go_simp
  try simp only [Act.put, List.setIfInBounds_toArray, List.set_cons_zero, List.set_cons_succ]
  refine takeD (i := 1) (v := .string (TH ++ (⟨#[126]⟩ : ByteArray))) (d := some 38) rfl (by kernel_rfl) (by kernel_rfl) (by kernel_rfl) (by kernel_rfl) (fun _ _ _ h => h) (.inl ⟨by kernel_rfl, fun w hSw => ?_⟩) (by assumption) ?_
  · obtain ⟨s0, s1⟩ := hSw
    go_simp
    all_goals ((try simp only [ByteArray.size_append, z126]); omega)
  try simp only [Act.put, List.setIfInBounds_toArray, List.set_cons_zero, List.set_cons_succ]
  refine takeD (i := 2) (v := .pointer (some ⟨w7.heap.size, 0, none⟩)) (d := some 39) rfl (by kernel_rfl) (by kernel_rfl) (by kernel_rfl) (by kernel_rfl) (fun _ _ _ h => h) (.inl ⟨by kernel_rfl, fun w hSw => ?_⟩) (by assumption) ?_
  · obtain ⟨s0, s1⟩ := hSw
    go_simp
  try simp only [Act.put, List.setIfInBounds_toArray, List.set_cons_zero, List.set_cons_succ]
  refine takeD (i := 3) (v := .int .i64 (r : Int)) (d := some 40) rfl (by kernel_rfl) (by kernel_rfl) (by kernel_rfl) (by kernel_rfl) (fun _ _ _ h => h) (.inl ⟨by kernel_rfl, fun w hSw => ?_⟩) (by assumption) ?_
  · obtain ⟨s0, s1⟩ := hSw
    go_simp
  try simp only [Act.put, List.setIfInBounds_toArray, List.set_cons_zero, List.set_cons_succ]
  refine takeD (i := 5) (v := .pointer (some ⟨w7.heap.size, 1, none⟩)) (d := some 42) rfl (by kernel_rfl) (by kernel_rfl) (by kernel_rfl) (by kernel_rfl) (fun _ _ _ h => h) (.inl ⟨by kernel_rfl, fun w hSw => ?_⟩) (by assumption) ?_
  · obtain ⟨s0, s1⟩ := hSw
    go_simp
  try simp only [Act.put, List.setIfInBounds_toArray, List.set_cons_zero, List.set_cons_succ]
  refine takeD (i := 6) (v := .int .i64 (z : Int)) (d := some 43) rfl (by kernel_rfl) (by kernel_rfl) (by kernel_rfl) (by kernel_rfl) (fun _ _ _ h => h) (.inl ⟨by kernel_rfl, fun w hSw => ?_⟩) (by assumption) ?_
  · obtain ⟨s0, s1⟩ := hSw
    go_simp
  try simp only [Act.put, List.setIfInBounds_toArray, List.set_cons_zero, List.set_cons_succ]
  refine wpAnyH_ready (rs := [4]) (by kernel_rfl) (by simp) ?_
  refine AllReadyH.cons (by rfl) (fun K hK => ?_) AllReadyH.nil
  go_simp
  refine (asBytes_any r _).mono ?_
  rintro e w9 ⟨rfl, hr9, hb9⟩
  have E9 := hide (undrewT hb9)
  have Q9 := hide (show RowIs w9 W8.heap.size (cellsOf (bytes4 r)) 5 from hr9)
  clear hr9 hb9 hHeld
  try dsimp only
  refine hK.out _ _ (twoT ((unhide R8).keep (unhide E9))) (fun hH9 => ?_)
  clear hK K
  try simp only [Act.put, List.setIfInBounds_toArray, List.set_cons_zero, List.set_cons_succ]
  refine wpAnyH_ready (rs := [7]) (by kernel_rfl) (by simp) ?_
  refine AllReadyH.cons (by rfl) (fun K hK => ?_) AllReadyH.nil
  go_simp
  refine (asBytes_any z _).mono ?_
  rintro e w10 ⟨rfl, hr10, hb10⟩
  have E10 := hide (bTr (unhide E9) hb10)
  have Q10 := hide ((unhide Q9).keep hb10)
  have P10 := hide hr10
  have z9 := (unhide E9).size
  clear hr10 hb10 hH9 Q9 E9
  try dsimp only
  refine hK.out _ _ (twoT ((unhide R8).keep (unhide E10))) (fun hH10 => ?_)
  clear hK K
  try simp only [Act.put, List.setIfInBounds_toArray, List.set_cons_zero, List.set_cons_succ]
  refine wpAnyH_ready (rs := [8]) (by kernel_rfl) (by simp) ?_
  refine AllReadyH.cons (by rfl) (fun K hK => ?_) AllReadyH.nil
  go_simp
  obtain ⟨w11, hw11⟩ : ∃ W, W = w10.alloc (.cells #[.slice (some ⟨W8.heap.size, 0, none⟩) 4 4, .slice (some ⟨w9.heap.size, 0, none⟩) 4 4] 44) := ⟨_, rfl⟩
  have b11 : Below w10.heap.size w10 w11 := by rw [hw11]; exact bAl (Below.refl _ _) _
  have RG := hide (show RowIs w11 w10.heap.size #[.slice (some ⟨W8.heap.size, 0, none⟩) 4 4, .slice (some ⟨w9.heap.size, 0, none⟩) 4 4] 44 by rw [hw11]; exact RowIs.new _ _ _)
  have E11 := hide (bTr (unhide E10) b11)
  have Q11 := hide ((unhide Q10).keep b11)
  have P11 := hide ((unhide P10).keep b11)
  try rw [show W8.drew.heap.size = W8.heap.size from rfl]
  rw [← hw11]
  clear hw11 b11 hH10 Q10 P10 E10
  try dsimp only
  refine hK.out _ _ (twoT ((unhide R8).keep (unhide E11))) (fun hH11 => ?_)
  clear hK K
  try simp only [Act.put, List.setIfInBounds_toArray, List.set_cons_zero, List.set_cons_succ]
  refine wpAnyH_ready (rs := [9]) (by kernel_rfl) (by simp) ?_
  refine AllReadyH.cons (by rfl) (fun K hK => ?_) AllReadyH.nil
  go_simp
  refine (concat_any w10.heap.size W8.heap.size 0 4 4 w9.heap.size 0 4 4 (bytes4 r) (bytes4 z) _ (by omega) (by omega) (by omega) (unhide RG) (row_slB (unhide Q11)) (row_slB (unhide P11))).mono ?_
  rintro e w12 ⟨v12, D12, hD12, rfl, ho12, hb12⟩
  have eD : D12 = TS := by rw [unhide hD12, unhide eS]
  subst eD
  obtain ⟨b12, c12, rfl, _, hc12, hcm12, s12⟩ := own_some ho12 (by rw [unhide eL]; decide)
  have E12 := hide (bTr (unhide E11) hb12)
  have S12 := hide s12
  have q10 := hide (fun (hs : SlB w12 w12.heap.size (some ⟨b12, 0, none⟩) D12.length D12) => iArmor_any (some ⟨b12, 0, none⟩) D12.length c12 D12 w12 (by rw [unhide eL]; unfold maxLen; omega) hc12 hcm12 hs)
  rw [show armD D12 = arm D12 from if_pos (by rw [unhide eL]; decide)] at q10
  clear hb12 ho12 s12 hH11 Q11 P11 RG E11 hD12 hcm12 hc12
  try dsimp only
  refine hK.out _ _ (twoT ((unhide R8).keep (unhide E12))) (fun hH12 => ?_)
  clear hK K
  try simp only [Act.put, List.setIfInBounds_toArray, List.set_cons_zero, List.set_cons_succ]
  refine wpAnyH_ready (rs := [10]) (by kernel_rfl) (by simp) ?_
  refine AllReadyH.cons (by rfl) (fun K hK => ?_) AllReadyH.nil
  go_simp
  refine (unhide q10 (unhide S12)).mono ?_
  rintro e w13 ⟨rfl, hb13⟩
  replace E12 := hide (bTr (unhide E12) hb13)
  clear hb13 hH12 q10 S12
  try dsimp only
  refine hK.out _ _ (twoT ((unhide R8).keep (unhide E12))) (fun hH13 => ?_)
  clear hK K
  try simp only [Act.put, List.setIfInBounds_toArray, List.set_cons_zero, List.set_cons_succ]
  have zA2 : (⟨(arm D12).toArray⟩ : ByteArray).size ≤ 100 := by rw [lsz, arm_len, unhide eL]; decide
  generalize (⟨(arm D12).toArray⟩ : ByteArray) = AR2 at eT zA2 ⊢
  refine takeD (i := 11) (v := .string (TH ++ (⟨#[126]⟩ : ByteArray) ++ AR2)) (d := some 48) rfl (by kernel_rfl) (by kernel_rfl) (by kernel_rfl) (by kernel_rfl) (fun _ _ _ h => h) (.inl ⟨by kernel_rfl, fun w hSw => ?_⟩) (by assumption) ?_
  · obtain ⟨s0, s1⟩ := hSw
    go_simp
    all_goals ((try simp only [ByteArray.size_append, z126]); omega)
  try simp only [Act.put, List.setIfInBounds_toArray, List.set_cons_zero, List.set_cons_succ]
  refine takeD (i := 12) (v := .string (TH ++ (⟨#[126]⟩ : ByteArray) ++ AR2)) (d := some 6) rfl (by kernel_rfl) (by kernel_rfl) (by kernel_rfl) (by kernel_rfl) (fun _ _ _ h => h) (.inl ⟨by kernel_rfl, fun w hSw => ?_⟩) (by assumption) ?_
  · obtain ⟨s0, s1⟩ := hSw
    go_simp
  try simp only [Act.put, List.setIfInBounds_toArray, List.set_cons_zero, List.set_cons_succ]
  refine wpAnyH_done (by kernel_rfl) ?_ _
  go_wp2_with fail
  go_ret
  exact ⟨⟨_, unhide TI _ (unhide eT).symm, rfl⟩, bTr (unhide B8) (unhide E12)⟩
end Go.Proofs.YthemcakenammdaaGreatDoor.D
/- WEq, ported from seat 1a. -/
namespace Go.Proofs.YthemcakenammdaaGreatDoor.V
open Go.RowKit

theorem eqAtom_same (x n : Int) (t y : ByteArray) (w : World) :
    Calls Tryz.prog 30 #[.agg #[.int .i64 x, .int .i64 n, .string t, .string y], .agg #[.int .i64 x, .int .i64 n, .string t, .string y]] w fun e w' => e = .returned (.bool true) ∧ Below w.heap.size w w' := by
  go_enter Tryz.func30, Tryz.ntmps30
  go_wp2
  go_ret
  exact ⟨rfl, bAl (bAl (Below.refl _ _) _) _⟩

set_option maxHeartbeats 400000 in
theorem eqAtomS_same (a1 a2 : Option Addr) (len1 c1 len2 c2 : Nat) (l : List AtomT) (w : World) (h1 : SlA w a1 len1 l) (h2 : SlA w a2 len2 l) (hm : len1 ≤ maxLen) :
    Calls Tryz.prog 31 #[.slice a1 len1 c1, .slice a2 len2 c2] w fun e w' => e = .returned (.bool true) ∧ Below w.heap.size w w' := by
  unfold maxLen at hm
  obtain rfl : len1 = len2 := by rw [h1.1, h2.1]
  have H1 := hide h1
  have H2 := hide h2
  clear h1 h2
  go_enter Tryz.func31, Tryz.ntmps31
  go_wp2
  go_loopw [5] (fun i w' => ∃ k : Nat, k ≤ len1 ∧ i = .int .i64 k ∧ Below w.heap.size w w') (fun i _ => len1 - (intOf i).toNat)
  case atStart => exact ⟨0, Nat.zero_le _, rfl, Below.refl _ _⟩
  case round =>
    obtain ⟨k, hk, rfl, hbel⟩ := hrel
    by_cases hlt : k < len1
    · have g1 := hide ((unhide H1).keep hbel)
      have g2 := hide ((unhide H2).keep hbel)
      have hk' : k < l.length := by rw [← (unhide H1).1]; exact hlt
      obtain ⟨b, off, rfl, r1⟩ := (unhide g1).at hlt
      obtain ⟨b', off', rfl, r2⟩ := (unhide g2).at hlt
      have p1 := r1.c k hk'
      have p2 := r2.c k hk'
      have z1 := r1.z
      have z2 := r2.z
      clear r1 r2 g1 g2
      generalize l[k] = A at p1 p2
      have ne : Nonempty (Kept wr) := ⟨⟨wr, Below.refl _ _⟩⟩
      have e0 := kept_cell z1 p1.c0
      have e1 := kept_cell z1 p1.c1
      have e2 := kept_cell z1 p1.c2
      have e3 := kept_cell z1 p1.c3
      have f0 := kept_cell z2 p2.c0
      have f1 := kept_cell z2 p2.c1
      have f2 := kept_cell z2 p2.c2
      have f3 := kept_cell z2 p2.c3
      have i0 : (0 : Int) ≤ (k : Int) := by omega
      have i1 : (k : Int) < (len1 : Int) := by omega
      go_wp2_with fail
      refine wp_region_kept (by kernel_rfl) (by kernel_rfl) ?_
      repeat (first
        | go_big_quiet_step ((go_at_call 30; exact kept_call (eqAtom_same _ _ _ _ _)))
        | quiet_step ((go_at_call 30; exact kept_call (eqAtom_same _ _ _ _ _))))
      refine wpQuiet_nil ?_
      rintro _ ⟨q, rfl⟩
      clear ne e0 e1 e2 e3 f0 f1 f2 f3
      obtain ⟨w3, hb3⟩ := q
      go_wp2_with fail
      exact ⟨⟨k + 1, by omega, by go_num, bTr hbel hb3⟩, by simp [intOf]; omega⟩
    · go_wp2_with fail
      go_ret
      exact ⟨rfl, hbel⟩
set_option maxHeartbeats 400000 in
theorem eqStringS_same (a1 a2 : Option Addr) (len1 c1 len2 c2 : Nat) (l : List ByteArray) (w : World) (h1 : SlS w a1 len1 l) (h2 : SlS w a2 len2 l) (hm : len1 ≤ maxLen) :
    Calls Tryz.prog 32 #[.slice a1 len1 c1, .slice a2 len2 c2] w fun e w' => e = .returned (.bool true) ∧ Below w.heap.size w w' := by
  unfold maxLen at hm
  obtain rfl : len1 = len2 := by rw [h1.1, h2.1]
  have H1 := hide h1
  have H2 := hide h2
  clear h1 h2
  go_enter Tryz.func32, Tryz.ntmps32
  go_wp2
  go_loopw [5] (fun i w' => ∃ k : Nat, k ≤ len1 ∧ i = .int .i64 k ∧ Below w.heap.size w w') (fun i _ => len1 - (intOf i).toNat)
  case atStart => exact ⟨0, Nat.zero_le _, rfl, Below.refl _ _⟩
  case round =>
    obtain ⟨k, hk, rfl, hbel⟩ := hrel
    by_cases hlt : k < len1
    · have g1 := hide ((unhide H1).keep hbel)
      have g2 := hide ((unhide H2).keep hbel)
      have hk' : k < l.length := by rw [← (unhide H1).1]; exact hlt
      obtain ⟨b, off, rfl, r1⟩ := (unhide g1).at hlt
      obtain ⟨b', off', rfl, r2⟩ := (unhide g2).at hlt
      have p1 := r1.c k hk'
      have p2 := r2.c k hk'
      clear r1 r2 g1 g2
      generalize l[k] = A at p1 p2
      have i0 : (0 : Int) ≤ (k : Int) := by omega
      have i1 : (k : Int) < (len1 : Int) := by omega
      go_wp2_with fail
      go_quiet (fail)
      go_wp2_with fail
      exact ⟨⟨k + 1, by omega, by go_num, below_drewN hbel _⟩, by simp [intOf]; omega⟩
    · go_wp2_with fail
      go_ret
      exact ⟨rfl, hbel⟩

set_option maxHeartbeats 1000000 in
theorem eqValue_same (v : ValT) (a1 a2 b1 b2 : Option Addr) (l1 c1 l2 c2 m1 e1 m2 e2 : Nat) (w : World) (hl1 : l1 ≤ maxLen) (hl2 : l2 ≤ maxLen)
    (hs1 : SlA w a1 l1 v.items) (hs2 : SlS w a2 l2 v.names) (ht1 : SlA w b1 m1 v.items) (ht2 : SlS w b2 m2 v.names) :
    Calls Tryz.prog 8 #[.agg #[.int .i64 v.k, .int .i64 v.a.x, .int .i64 v.a.n, .string v.a.t, .string v.a.y, .slice a1 l1 c1, .slice a2 l2 c2],
        .agg #[.int .i64 v.k, .int .i64 v.a.x, .int .i64 v.a.n, .string v.a.t, .string v.a.y, .slice b1 m1 e1, .slice b2 m2 e2]] w
      fun e w' => e = .returned (.bool true) ∧ Below w.heap.size w w' := by
  have q1 := hide (fun w (h1 : SlA w a1 l1 v.items) (h2 : SlA w b1 m1 v.items) => eqAtomS_same a1 b1 l1 c1 m1 e1 v.items w h1 h2 hl1)
  have q2 := hide (fun w (h1 : SlS w a2 l2 v.names) (h2 : SlS w b2 m2 v.names) => eqStringS_same a2 b2 l2 c2 m2 e2 v.names w h1 h2 hl2)
  have HS1 := hide hs1
  have HS2 := hide hs2
  have HT1 := hide ht1
  have HT2 := hide ht2
  clear hs1 hs2 ht1 ht2 hl1 hl2
  go_enter Tryz.func8, Tryz.ntmps8
  go_wp2_with fail
  refine (eqAtom_same _ _ _ _ _).mono ?_
  rintro e w1 ⟨rfl, hb1⟩
  have qa := ((ValAt.new w v (.slice a1 l1 c1) (.slice a2 l2 c2) 33).more _).keep hb1
  have qb := (ValAt.new1 w _ v (.slice b1 m1 e1) (.slice b2 m2 e2) 33).keep hb1
  have bw := bTr (bAl (bAl (Below.refl _ _) _) _) hb1
  clear hb1
  have d5 := qa.c5
  have f5 := qb.c5
  go_wp2_with fail
  refine (unhide q1 _ ((unhide HS1).keep bw) ((unhide HT1).keep bw)).mono ?_
  rintro e w2 ⟨rfl, hb2⟩
  clear d5 f5
  have d6 := (qa.keep hb2).c6
  have f6 := (qb.keep hb2).c6
  replace bw := bTr bw hb2
  clear hb2
  go_wp2_with fail
  refine (unhide q2 _ ((unhide HS2).keep bw) ((unhide HT2).keep bw)).mono ?_
  rintro e w3 ⟨rfl, hb3⟩
  go_wp2_with fail
  go_ret
  exact ⟨rfl, bTr bw hb3⟩
end Go.Proofs.YthemcakenammdaaGreatDoor.V
