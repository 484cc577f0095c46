/- TTxt, TFrm, one behind the other. -/
import Derived.Test.YticidjceljjfnaaGreatDoorJ21
import Derived.Test.YticidjceljjfnaaGreatDoorJ23
/- Tuples' texts: spec.l7Subject, TupleText; impl.TupleText. -/
namespace Go.Proofs.YticidjceljjfnaaGreatDoor.V
open Go.RowKit
set_option maxRecDepth 20000

def valX (v : ValT) : ByteArray := ⟨(valL v).toArray⟩
def subR (t : TupT) : ByteArray := if t.srel = ⟨#[]⟩ then ⟨#[]⟩ else (⟨#[35]⟩ : ByteArray) ++ t.srel
def cavR (t : TupT) : ByteArray := if t.cav = ⟨#[]⟩ then ⟨#[]⟩ else (⟨#[91]⟩ : ByteArray) ++ t.cav ++ ⟨#[58]⟩ ++ valX t.g ++ ⟨#[93]⟩
/-- A subject's text. -/
def subT (t : TupT) : ByteArray := t.sty ++ ⟨#[58]⟩ ++ t.sid ++ subR t ++ cavR t
/-- A tuple's text, where it has one. -/
def tupT (t : TupT) : ByteArray := t.ty ++ ⟨#[58]⟩ ++ t.id ++ ⟨#[35]⟩ ++ t.rel ++ ⟨#[64]⟩ ++ subT t
def TxtIs (t : TupT) (r : ByteArray) : Prop := (Form t → r = tupT t) ∧ (¬ Form t → r = ⟨#[]⟩)
theorem TxtIs.uniq {t : TupT} {r r' : ByteArray} (h : TxtIs t r) (k : TxtIs t r') : r = r' := by
  by_cases hf : Form t
  · rw [h.1 hf, k.1 hf]
  · rw [h.2 hf, k.2 hf]
theorem app_nil (a : ByteArray) : a ++ (⟨#[]⟩ : ByteArray) = a := by
  apply ByteArray.ext; simp [ByteArray.data_append]
theorem id_size {s : ByteArray} (h : idB s = true) : s.size ≤ 40 := by
  unfold idB at h
  rw [Bool.and_eq_true] at h
  have := of_decide_eq_true h.1
  omega
structure Small (t : TupT) : Prop where
  z0 : t.ty.size ≤ 40
  z1 : t.id.size ≤ 40
  z2 : t.rel.size ≤ 40
  z3 : t.sty.size ≤ 40
  z4 : t.sid.size ≤ 40
  z5 : t.srel.size ≤ 40
  z6 : t.cav.size ≤ 40
theorem Form.small {t : TupT} (h : Form t) : Small t := by
  have f : ∀ s : ByteArray, goodName s = true → s.size ≤ 40 := fun s hs => by have := name_len hs; omega
  have g : ∀ s : ByteArray, NamP s → s.size ≤ 40 := fun s hs => by
    rcases hs with rfl | hs
    · exact Nat.zero_le _
    · exact f _ hs
  refine ⟨f _ h.p0, id_size h.p1, f _ h.p2, f _ h.p3, ?_, g _ h.p5, g _ h.p6⟩
  rcases h.p4 with e | e
  · rw [e]; decide
  · exact id_size e
theorem val_size {v : ValT} (hv : v.Ok) (h : Rec v) : (valX v).size ≤ 200000 := by
  obtain ⟨h1, h2, h3, h4, _⟩ := h.parts
  have hk := h.1
  show (valL v).toArray.size ≤ 200000
  rw [List.size_toArray]
  unfold valL
  rw [if_neg (by omega), if_pos hk]
  have hb := join_bound [44] rfl 1200 (pieces v) (by
    intro x hx
    unfold pieces at hx
    rw [if_pos hk] at hx
    obtain ⟨i, hi, rfl⟩ := List.getElem_of_mem hx
    rw [List.length_zipWith] at hi
    rw [List.getElem_zipWith]
    have i1 : i < v.names.length := by omega
    have i2 : i < v.items.length := by omega
    have n1 := name_len (h4 i i1 i1)
    have a1 := AtomT.l_len (hv.items _ (List.getElem_mem i2)) (h2 i i2 i2)
    have e : (v.names[i]).data.toList.length = (v.names[i]).size := by simp
    simp only [List.length_append, List.length_cons]
    omega)
  have hl : (pieces v).length ≤ 50 := by
    unfold pieces
    rw [if_pos hk, List.length_zipWith]
    omega
  have : (1200 + 1) * (pieces v).length ≤ 1201 * 50 := Nat.mul_le_mul_left _ hl
  simp only [List.length_cons, List.length_append, List.length_nil]
  omega
theorem is_emp {c : ByteArray} (h : c = ⟨#[]⟩) : c.toList.isEmpty = true := by rw [h, ByteArray.toList_eq]; rfl
theorem Form.recd {t : TupT} (h : Form t) (hc : t.cav ≠ ⟨#[]⟩) : Rec t.g := h.p7.elim (fun h => absurd h.1 hc) (fun h => h.2)

set_option maxHeartbeats 4000000 in
theorem l7Subject_any (t : TupT) (ht : t.Ok) (a1 a2 : Option Addr) (l1 c1 l2 c2 : Nat) (w : World) (hs1 : SlA w a1 l1 t.g.items) (hs2 : SlS w a2 l2 t.g.names) (hf : Form t) :
    Calls Tryz.prog 16 #[tAg t a1 l1 c1 a2 l2 c2] w fun e w' => e = .returned (.string (subT t)) ∧ Below w.heap.size w w' := by
  obtain ⟨W0, hW0⟩ : ∃ W, W = w.alloc (.cells #[.string t.ty, .string t.id, .string t.rel, .string t.sty, .string t.sid, .string t.srel, .string t.cav, .int .i64 t.g.k, .int .i64 t.g.a.x, .int .i64 t.g.a.n, .string t.g.a.t, .string t.g.a.y, .slice a1 l1 c1, .slice a2 l2 c2] 37) := ⟨_, rfl⟩
  have ta : TupAt W0 w.heap.size t (.slice a1 l1 c1) (.slice a2 l2 c2) := by rw [hW0]; exact TupAt.new _ _ _ _ _
  have b0 : Below w.heap.size w W0 := by rw [hW0]; exact bAl (Below.refl _ _) _
  have HS1 := hide hs1
  have HS2 := hide hs2
  have TA := hide ta
  have B0 := hide b0
  have HW := hide hW0
  obtain ⟨z0, z1, z2, z3, z4, z5, z6⟩ := hf.small
  have q := hide (fun (hc : t.cav ≠ ⟨#[]⟩) w h1 h2 => sValueText_yes t.g ht.g a1 a2 l1 c1 l2 c2 w h1 h2 (hf.recd hc).2)
  have zX := hide (fun (hc : t.cav ≠ ⟨#[]⟩) => val_size ht.g (hf.recd hc))
  have eS := hide (show subT t = t.sty ++ ⟨#[58]⟩ ++ t.sid ++ subR t ++ cavR t from rfl)
  have e1 := hide (fun (h : t.srel = ⟨#[]⟩) => show subR t = ⟨#[]⟩ from if_pos h)
  have e2 := hide (fun (h : ¬ t.srel = ⟨#[]⟩) => show subR t = (⟨#[35]⟩ : ByteArray) ++ t.srel from if_neg h)
  have e3 := hide (fun (h : t.cav = ⟨#[]⟩) => show cavR t = ⟨#[]⟩ from if_pos h)
  have e4 := hide (fun (h : ¬ t.cav = ⟨#[]⟩) => show cavR t = (⟨#[91]⟩ : ByteArray) ++ t.cav ++ ⟨#[58]⟩ ++ valX t.g ++ ⟨#[93]⟩ from if_neg h)
  generalize subT t = ST at eS ⊢
  generalize subR t = SR at eS e1 e2
  generalize cavR t = CR at eS e3 e4
  clear hs1 hs2 ta b0 ht hf hW0
  by_cases hr : t.srel = ⟨#[]⟩
  · have hr2 := is_emp hr
    replace eS := hide (show ST = t.sty ++ ⟨#[58]⟩ ++ t.sid ++ CR by rw [unhide eS, unhide e1 hr, app_nil])
    clear e1 e2 hr
    by_cases hc : t.cav = ⟨#[]⟩
    · have hc2 := is_emp hc
      have eC := hide (unhide e3 hc)
      clear e3 e4 hc q zX
      go_enter Tryz.func16, Tryz.ntmps16
      go_wp2_with fail
      rw [← unhide HW]
      go_ret
      exact ⟨by rw [unhide eS, unhide eC, app_nil]; rfl, unhide B0⟩
    · have hc2 := ne_list hc
      have eC := hide (unhide e4 hc)
      have zX2 := unhide zX hc
      have qK := hide (fun (x : Kept W0) => unhide q hc x.w ((unhide HS1).keep (bTr (unhide B0) x.h)) ((unhide HS2).keep (bTr (unhide B0) x.h)))
      have EX := hide (show (⟨(valL t.g).toArray⟩ : ByteArray) = valX t.g from rfl)
      rw [unhide EX] at qK
      generalize valX t.g = X at eC zX2 qK
      clear e3 e4 zX q hc EX
      have lt := (unhide TA).lt
      have ne : Nonempty (Kept W0) := ⟨⟨W0, Below.refl _ _⟩⟩
      have x6 := kept_cell lt (unhide TA).d6
      have x7 := kept_cell lt (unhide TA).d7
      have x8 := kept_cell lt (unhide TA).d8
      have x9 := kept_cell lt (unhide TA).d9
      have x10 := kept_cell lt (unhide TA).d10
      have x11 := kept_cell lt (unhide TA).d11
      have x12 := kept_cell lt (unhide TA).d12
      have x13 := kept_cell lt (unhide TA).d13
      have s1 : ¬ 9223372036854775807 < 1 + t.cav.size := by omega
      have s2 : ¬ 9223372036854775806 < 1 + t.cav.size := by omega
      have s3 : ¬ 9223372036854775807 < 1 + t.cav.size + 1 + X.size := by omega
      have s4 : ¬ 9223372036854775806 < 1 + t.cav.size + 1 + X.size := by omega
      obtain ⟨O, hO⟩ : ∃ O : ByteArray, t.sty ++ (⟨#[58]⟩ : ByteArray) ++ t.sid = O := ⟨_, rfl⟩
      have zO : O.size ≤ 200 := by
        rw [← hO]
        simp only [ByteArray.size_append]
        have f1 : (⟨#[58]⟩ : ByteArray).size = 1 := rfl
        have f2 : (⟨#[35]⟩ : ByteArray).size = 1 := rfl
        omega
      have s5 : ¬ 9223372036854775807 < O.size + (1 + t.cav.size + 1 + X.size + 1) := by omega
      have HO := hide hO
      clear hO lt
      go_enter Tryz.func16, Tryz.ntmps16
      go_wp2_with fail
      rw [← unhide HW, unhide HO]
      refine wp_region_kept (by kernel_rfl) (by kernel_rfl) ?_
      repeat (first
        | go_big_quiet_step ((go_at_call 34; exact kept_call (unhide qK _)))
        | quiet_step ((go_at_call 34; exact kept_call (unhide qK _))))
      refine wpQuiet_nil ?_
      rintro _ ⟨q, rfl⟩
      obtain ⟨w3, hb3⟩ := q
      go_wp2_with fail
      go_ret
      exact ⟨by rw [unhide eS, unhide eC, ← unhide HO]; rfl, bTr (unhide B0) hb3⟩
  · have hr2 := ne_list hr
    replace eS := hide (show ST = t.sty ++ ⟨#[58]⟩ ++ t.sid ++ ((⟨#[35]⟩ : ByteArray) ++ t.srel) ++ CR by rw [unhide eS, unhide e2 hr])
    clear e1 e2 hr
    by_cases hc : t.cav = ⟨#[]⟩
    · have hc2 := is_emp hc
      have eC := hide (unhide e3 hc)
      clear e3 e4 hc q zX
      go_enter Tryz.func16, Tryz.ntmps16
      go_wp2_with fail
      rw [← unhide HW]
      go_ret
      exact ⟨by rw [unhide eS, unhide eC, app_nil]; rfl, unhide B0⟩
    · have hc2 := ne_list hc
      have eC := hide (unhide e4 hc)
      have zX2 := unhide zX hc
      have qK := hide (fun (x : Kept W0) => unhide q hc x.w ((unhide HS1).keep (bTr (unhide B0) x.h)) ((unhide HS2).keep (bTr (unhide B0) x.h)))
      have EX := hide (show (⟨(valL t.g).toArray⟩ : ByteArray) = valX t.g from rfl)
      rw [unhide EX] at qK
      generalize valX t.g = X at eC zX2 qK
      clear e3 e4 zX q hc EX
      have lt := (unhide TA).lt
      have ne : Nonempty (Kept W0) := ⟨⟨W0, Below.refl _ _⟩⟩
      have x6 := kept_cell lt (unhide TA).d6
      have x7 := kept_cell lt (unhide TA).d7
      have x8 := kept_cell lt (unhide TA).d8
      have x9 := kept_cell lt (unhide TA).d9
      have x10 := kept_cell lt (unhide TA).d10
      have x11 := kept_cell lt (unhide TA).d11
      have x12 := kept_cell lt (unhide TA).d12
      have x13 := kept_cell lt (unhide TA).d13
      have s1 : ¬ 9223372036854775807 < 1 + t.cav.size := by omega
      have s2 : ¬ 9223372036854775806 < 1 + t.cav.size := by omega
      have s3 : ¬ 9223372036854775807 < 1 + t.cav.size + 1 + X.size := by omega
      have s4 : ¬ 9223372036854775806 < 1 + t.cav.size + 1 + X.size := by omega
      obtain ⟨O, hO⟩ : ∃ O : ByteArray, t.sty ++ (⟨#[58]⟩ : ByteArray) ++ t.sid ++ ((⟨#[35]⟩ : ByteArray) ++ t.srel) = O := ⟨_, rfl⟩
      have zO : O.size ≤ 200 := by
        rw [← hO]
        simp only [ByteArray.size_append]
        have f1 : (⟨#[58]⟩ : ByteArray).size = 1 := rfl
        have f2 : (⟨#[35]⟩ : ByteArray).size = 1 := rfl
        omega
      have s5 : ¬ 9223372036854775807 < O.size + (1 + t.cav.size + 1 + X.size + 1) := by omega
      have HO := hide hO
      clear hO lt
      go_enter Tryz.func16, Tryz.ntmps16
      go_wp2_with fail
      rw [← unhide HW, unhide HO]
      refine wp_region_kept (by kernel_rfl) (by kernel_rfl) ?_
      repeat (first
        | go_big_quiet_step ((go_at_call 34; exact kept_call (unhide qK _)))
        | quiet_step ((go_at_call 34; exact kept_call (unhide qK _))))
      refine wpQuiet_nil ?_
      rintro _ ⟨q, rfl⟩
      obtain ⟨w3, hb3⟩ := q
      go_wp2_with fail
      go_ret
      exact ⟨by rw [unhide eS, unhide eC, ← unhide HO]; rfl, bTr (unhide B0) hb3⟩
end Go.Proofs.YticidjceljjfnaaGreatDoor.V
/- spec.l7Form. -/
namespace Go.Proofs.YticidjceljjfnaaGreatDoor.V
open Go.RowKit
set_option maxRecDepth 20000

theorem sName_any (s : ByteArray) (hs : s.size ≤ maxLen) (w : World) :
    Calls Tryz.prog 30 #[.string s] w fun e w' => e = .returned (.bool (goodName s)) ∧ Below w.heap.size w w' :=
  (sGoodName_any s hs w).mono fun _ _ ⟨h, hw⟩ => ⟨h, hw ▸ Below.refl _ _⟩
set_option maxHeartbeats 40000000 in
theorem l7Form_any (t : TupT) (ht : t.Ok) (a1 a2 : Option Addr) (l1 c1 l2 c2 : Nat) (w : World) (_hl : l1 ≤ maxLen) (hs1 : SlA w a1 l1 t.g.items) (hs2 : SlS w a2 l2 t.g.names) :
    Calls Tryz.prog 15 #[tAg t a1 l1 c1 a2 l2 c2] w fun e w' => RetB e (Form t) ∧ Below w.heap.size w w' := by
  obtain ⟨W0, hW0⟩ : ∃ W, W = w.alloc (.cells #[.string t.ty, .string t.id, .string t.rel, .string t.sty, .string t.sid, .string t.srel, .string t.cav, .int .i64 t.g.k, .int .i64 t.g.a.x, .int .i64 t.g.a.n, .string t.g.a.t, .string t.g.a.y, .slice a1 l1 c1, .slice a2 l2 c2] 37) := ⟨_, rfl⟩
  have ta : TupAt W0 w.heap.size t (.slice a1 l1 c1) (.slice a2 l2 c2) := by rw [hW0]; exact TupAt.new _ _ _ _ _
  have b0 : Below w.heap.size w W0 := by rw [hW0]; exact bAl (Below.refl _ _) _
  have no := fun (h : ¬ Form t) => (show (false = true ↔ Form t) from ⟨fun h => (by cases h), fun h2 => absurd h2 h⟩)
  have NO := hide no
  have HS1 := hide hs1
  have HS2 := hide hs2
  have TA := hide ta
  have B0 := hide b0
  have HW := hide hW0
  have q0 := hide (fun w => sName_any t.ty ht.h_ty w)
  have q1 := hide (fun w => l7Id_any t.id ht.h_id w)
  have q2 := hide (fun w => sName_any t.rel ht.h_rel w)
  have q3 := hide (fun w => sName_any t.sty ht.h_sty w)
  have q4 := hide (fun w => l7Id_any t.sid ht.h_sid w)
  have q5 := hide (fun w => sName_any t.srel ht.h_srel w)
  have q6 := hide (fun w => sName_any t.cav ht.h_cav w)
  have q7 := hide (fun w => l7Empty_any t.g a1 a2 l1 c1 l2 c2 w hs1.1 hs2.1)
  have q8 := hide (fun w h1 h2 => l6Record_any t.g ht.g a1 a2 l1 c1 l2 c2 w h1 h2)
  clear no hs1 hs2 ta b0 ht _hl
  have d0 := (unhide TA).d0
  go_enter Tryz.func15, Tryz.ntmps15
  go_wp2_with fail
  rw [← unhide HW]
  clear HW
  refine (unhide q0 _).mono ?_
  rintro e w1 ⟨rfl, hb⟩
  obtain ⟨b, hgb⟩ : ∃ b, goodName t.ty = b := ⟨_, rfl⟩
  rw [hgb]
  have B1 := hide (bTr (unhide B0) hb)
  replace TA := hide ((unhide TA).keep hb)
  clear d0 hb q0 B0
  cases b
  · have hn := hide (unhide NO (fun h => (by have := h.p0; rw [hgb] at this; cases this)))
    go_wp2_with fail
    go_ret
    exact ⟨retB (b := false) (unhide hn), unhide B1⟩
  have P0 := hide hgb
  clear hgb
  have d1 := (unhide TA).d1
  go_wp2_with fail
  refine (unhide q1 _).mono ?_
  rintro e w2 ⟨rfl, hb⟩
  obtain ⟨b, hgb⟩ : ∃ b, idB t.id = b := ⟨_, rfl⟩
  rw [hgb]
  have B2 := hide (bTr (unhide B1) hb)
  replace TA := hide ((unhide TA).keep hb)
  clear d1 hb q1 B1
  cases b
  · have hn := hide (unhide NO (fun h => (by have := h.p1; rw [hgb] at this; cases this)))
    go_wp2_with fail
    go_ret
    exact ⟨retB (b := false) (unhide hn), unhide B2⟩
  have P1 := hide hgb
  clear hgb
  have d2 := (unhide TA).d2
  go_wp2_with fail
  refine (unhide q2 _).mono ?_
  rintro e w3 ⟨rfl, hb⟩
  obtain ⟨b, hgb⟩ : ∃ b, goodName t.rel = b := ⟨_, rfl⟩
  rw [hgb]
  have B3 := hide (bTr (unhide B2) hb)
  replace TA := hide ((unhide TA).keep hb)
  clear d2 hb q2 B2
  cases b
  · have hn := hide (unhide NO (fun h => (by have := h.p2; rw [hgb] at this; cases this)))
    go_wp2_with fail
    go_ret
    exact ⟨retB (b := false) (unhide hn), unhide B3⟩
  have P2 := hide hgb
  clear hgb
  have d3 := (unhide TA).d3
  go_wp2_with fail
  refine (unhide q3 _).mono ?_
  rintro e w4 ⟨rfl, hb⟩
  obtain ⟨b, hgb⟩ : ∃ b, goodName t.sty = b := ⟨_, rfl⟩
  rw [hgb]
  have B4 := hide (bTr (unhide B3) hb)
  replace TA := hide ((unhide TA).keep hb)
  clear d3 hb q3 B3
  cases b
  · have hn := hide (unhide NO (fun h => (by have := h.p3; rw [hgb] at this; cases this)))
    go_wp2_with fail
    go_ret
    exact ⟨retB (b := false) (unhide hn), unhide B4⟩
  have P3 := hide hgb
  clear hgb
  by_cases hst : t.sid = ⟨#[42]⟩
  · have d4 := (unhide TA).d4
    rw [hst] at d4
    have P4 := hide (show SubP t.sid from .inl hst)
    clear hst
    by_cases hr : t.srel = ⟨#[]⟩
    · have d5 := (unhide TA).d5
      rw [hr] at d5
      have P5 := hide (show NamP t.srel from .inl hr)
      clear hr
      by_cases hc : t.cav = ⟨#[]⟩
      · have d6 := (unhide TA).d6
        rw [hc] at d6
        have d7 := (unhide TA).d7
        have d8 := (unhide TA).d8
        have d9 := (unhide TA).d9
        have d10 := (unhide TA).d10
        have d11 := (unhide TA).d11
        have d12 := (unhide TA).d12
        have d13 := (unhide TA).d13
        have HC := hide hc
        clear hc
        go_wp2_with fail
        refine (unhide q7 _).mono ?_
        rintro e w' ⟨⟨b, rfl, hgb⟩, hb⟩
        have BB := hide (bTr (unhide B4) hb)
        have HG := hide (show b = true ↔ Form t from ⟨fun h => ⟨unhide P0, unhide P1, unhide P2, unhide P3, unhide P4, unhide P5, .inl (unhide HC), .inl ⟨unhide HC, hgb.1 h⟩⟩, fun h => hgb.2 (h.p7.elim (fun h => h.2) (fun h => absurd (unhide HC) h.1))⟩)
        clear hgb hb d6 d7 d8 d9 d10 d11 d12 d13
        go_wp2_with fail
        go_ret
        exact ⟨retB (unhide HG), unhide BB⟩
      · have hc2 := ne_list hc
        have HC := hide hc
        clear hc
        have d6 := (unhide TA).d6
        go_wp2_with fail
        refine (unhide q6 _).mono ?_
        rintro e w' ⟨rfl, hb⟩
        obtain ⟨b, hgb⟩ : ∃ b, goodName t.cav = b := ⟨_, rfl⟩
        rw [hgb]
        have BB := hide (bTr (unhide B4) hb)
        replace TA := hide ((unhide TA).keep hb)
        clear d6 hb
        cases b
        · have hn := hide (unhide NO (fun h => h.p6.elim (fun h => unhide HC h) (fun h => (by rw [hgb] at h; cases h))))
          go_wp2_with fail
          go_ret
          exact ⟨retB (b := false) (unhide hn), unhide BB⟩
        have P6 := hide hgb
        clear hgb
        have d7 := (unhide TA).d7
        have d8 := (unhide TA).d8
        have d9 := (unhide TA).d9
        have d10 := (unhide TA).d10
        have d11 := (unhide TA).d11
        have d12 := (unhide TA).d12
        have d13 := (unhide TA).d13
        go_wp2_with fail
        refine (unhide q8 _ ((unhide HS1).keep (unhide BB)) ((unhide HS2).keep (unhide BB))).mono ?_
        rintro e w'' ⟨⟨b, rfl, hgb⟩, hb⟩
        have BC := hide (bTr (unhide BB) hb)
        have HG := hide (show b = true ↔ Form t from ⟨fun h => ⟨unhide P0, unhide P1, unhide P2, unhide P3, unhide P4, unhide P5, .inr (unhide P6), .inr ⟨unhide HC, hgb.1 h⟩⟩, fun h => hgb.2 (h.p7.elim (fun h => absurd h.1 (unhide HC)) (fun h => h.2))⟩)
        clear hgb hb d7 d8 d9 d10 d11 d12 d13
        go_wp2_with fail
        go_ret
        exact ⟨retB (unhide HG), unhide BC⟩
    · have hr2 := ne_list hr
      have HR := hide hr
      clear hr
      have d5 := (unhide TA).d5
      go_wp2_with fail
      refine (unhide q5 _).mono ?_
      rintro e w5' ⟨rfl, hb⟩
      obtain ⟨b, hgb⟩ : ∃ b, goodName t.srel = b := ⟨_, rfl⟩
      rw [hgb]
      have B6 := hide (bTr (unhide B4) hb)
      replace TA := hide ((unhide TA).keep hb)
      clear d5 hb
      cases b
      · have hn := hide (unhide NO (fun h => h.p5.elim (fun h => unhide HR h) (fun h => (by rw [hgb] at h; cases h))))
        go_wp2_with fail
        go_ret
        exact ⟨retB (b := false) (unhide hn), unhide B6⟩
      have P5 := hide (show NamP t.srel from .inr hgb)
      clear hgb
      by_cases hc : t.cav = ⟨#[]⟩
      · have d6 := (unhide TA).d6
        rw [hc] at d6
        have d7 := (unhide TA).d7
        have d8 := (unhide TA).d8
        have d9 := (unhide TA).d9
        have d10 := (unhide TA).d10
        have d11 := (unhide TA).d11
        have d12 := (unhide TA).d12
        have d13 := (unhide TA).d13
        have HC := hide hc
        clear hc
        go_wp2_with fail
        refine (unhide q7 _).mono ?_
        rintro e w' ⟨⟨b, rfl, hgb⟩, hb⟩
        have BB := hide (bTr (unhide B6) hb)
        have HG := hide (show b = true ↔ Form t from ⟨fun h => ⟨unhide P0, unhide P1, unhide P2, unhide P3, unhide P4, unhide P5, .inl (unhide HC), .inl ⟨unhide HC, hgb.1 h⟩⟩, fun h => hgb.2 (h.p7.elim (fun h => h.2) (fun h => absurd (unhide HC) h.1))⟩)
        clear hgb hb d6 d7 d8 d9 d10 d11 d12 d13
        go_wp2_with fail
        go_ret
        exact ⟨retB (unhide HG), unhide BB⟩
      · have hc2 := ne_list hc
        have HC := hide hc
        clear hc
        have d6 := (unhide TA).d6
        go_wp2_with fail
        refine (unhide q6 _).mono ?_
        rintro e w' ⟨rfl, hb⟩
        obtain ⟨b, hgb⟩ : ∃ b, goodName t.cav = b := ⟨_, rfl⟩
        rw [hgb]
        have BB := hide (bTr (unhide B6) hb)
        replace TA := hide ((unhide TA).keep hb)
        clear d6 hb
        cases b
        · have hn := hide (unhide NO (fun h => h.p6.elim (fun h => unhide HC h) (fun h => (by rw [hgb] at h; cases h))))
          go_wp2_with fail
          go_ret
          exact ⟨retB (b := false) (unhide hn), unhide BB⟩
        have P6 := hide hgb
        clear hgb
        have d7 := (unhide TA).d7
        have d8 := (unhide TA).d8
        have d9 := (unhide TA).d9
        have d10 := (unhide TA).d10
        have d11 := (unhide TA).d11
        have d12 := (unhide TA).d12
        have d13 := (unhide TA).d13
        go_wp2_with fail
        refine (unhide q8 _ ((unhide HS1).keep (unhide BB)) ((unhide HS2).keep (unhide BB))).mono ?_
        rintro e w'' ⟨⟨b, rfl, hgb⟩, hb⟩
        have BC := hide (bTr (unhide BB) hb)
        have HG := hide (show b = true ↔ Form t from ⟨fun h => ⟨unhide P0, unhide P1, unhide P2, unhide P3, unhide P4, unhide P5, .inr (unhide P6), .inr ⟨unhide HC, hgb.1 h⟩⟩, fun h => hgb.2 (h.p7.elim (fun h => absurd h.1 (unhide HC)) (fun h => h.2))⟩)
        clear hgb hb d7 d8 d9 d10 d11 d12 d13
        go_wp2_with fail
        go_ret
        exact ⟨retB (unhide HG), unhide BC⟩
  · have hst2 : (t.sid.toList == [42]) = false := by
      have := ne_str hst
      rwa [show (⟨#[42]⟩ : ByteArray).toList = [42] by rw [ByteArray.toList_eq]] at this
    have HST := hide hst
    clear hst
    have d4 := (unhide TA).d4
    go_wp2_with fail
    refine (unhide q4 _).mono ?_
    rintro e w5 ⟨rfl, hb⟩
    obtain ⟨b, hgb⟩ : ∃ b, idB t.sid = b := ⟨_, rfl⟩
    rw [hgb]
    have B5 := hide (bTr (unhide B4) hb)
    replace TA := hide ((unhide TA).keep hb)
    clear d4 hb
    cases b
    · have hn := hide (unhide NO (fun h => h.p4.elim (fun h => unhide HST h) (fun h => (by rw [hgb] at h; cases h))))
      go_wp2_with fail
      go_ret
      exact ⟨retB (b := false) (unhide hn), unhide B5⟩
    have P4 := hide (show SubP t.sid from .inr hgb)
    clear hgb
    by_cases hr : t.srel = ⟨#[]⟩
    · have d5 := (unhide TA).d5
      rw [hr] at d5
      have P5 := hide (show NamP t.srel from .inl hr)
      clear hr
      by_cases hc : t.cav = ⟨#[]⟩
      · have d6 := (unhide TA).d6
        rw [hc] at d6
        have d7 := (unhide TA).d7
        have d8 := (unhide TA).d8
        have d9 := (unhide TA).d9
        have d10 := (unhide TA).d10
        have d11 := (unhide TA).d11
        have d12 := (unhide TA).d12
        have d13 := (unhide TA).d13
        have HC := hide hc
        clear hc
        go_wp2_with fail
        refine (unhide q7 _).mono ?_
        rintro e w' ⟨⟨b, rfl, hgb⟩, hb⟩
        have BB := hide (bTr (unhide B5) hb)
        have HG := hide (show b = true ↔ Form t from ⟨fun h => ⟨unhide P0, unhide P1, unhide P2, unhide P3, unhide P4, unhide P5, .inl (unhide HC), .inl ⟨unhide HC, hgb.1 h⟩⟩, fun h => hgb.2 (h.p7.elim (fun h => h.2) (fun h => absurd (unhide HC) h.1))⟩)
        clear hgb hb d6 d7 d8 d9 d10 d11 d12 d13
        go_wp2_with fail
        go_ret
        exact ⟨retB (unhide HG), unhide BB⟩
      · have hc2 := ne_list hc
        have HC := hide hc
        clear hc
        have d6 := (unhide TA).d6
        go_wp2_with fail
        refine (unhide q6 _).mono ?_
        rintro e w' ⟨rfl, hb⟩
        obtain ⟨b, hgb⟩ : ∃ b, goodName t.cav = b := ⟨_, rfl⟩
        rw [hgb]
        have BB := hide (bTr (unhide B5) hb)
        replace TA := hide ((unhide TA).keep hb)
        clear d6 hb
        cases b
        · have hn := hide (unhide NO (fun h => h.p6.elim (fun h => unhide HC h) (fun h => (by rw [hgb] at h; cases h))))
          go_wp2_with fail
          go_ret
          exact ⟨retB (b := false) (unhide hn), unhide BB⟩
        have P6 := hide hgb
        clear hgb
        have d7 := (unhide TA).d7
        have d8 := (unhide TA).d8
        have d9 := (unhide TA).d9
        have d10 := (unhide TA).d10
        have d11 := (unhide TA).d11
        have d12 := (unhide TA).d12
        have d13 := (unhide TA).d13
        go_wp2_with fail
        refine (unhide q8 _ ((unhide HS1).keep (unhide BB)) ((unhide HS2).keep (unhide BB))).mono ?_
        rintro e w'' ⟨⟨b, rfl, hgb⟩, hb⟩
        have BC := hide (bTr (unhide BB) hb)
        have HG := hide (show b = true ↔ Form t from ⟨fun h => ⟨unhide P0, unhide P1, unhide P2, unhide P3, unhide P4, unhide P5, .inr (unhide P6), .inr ⟨unhide HC, hgb.1 h⟩⟩, fun h => hgb.2 (h.p7.elim (fun h => absurd h.1 (unhide HC)) (fun h => h.2))⟩)
        clear hgb hb d7 d8 d9 d10 d11 d12 d13
        go_wp2_with fail
        go_ret
        exact ⟨retB (unhide HG), unhide BC⟩
    · have hr2 := ne_list hr
      have HR := hide hr
      clear hr
      have d5 := (unhide TA).d5
      go_wp2_with fail
      refine (unhide q5 _).mono ?_
      rintro e w5' ⟨rfl, hb⟩
      obtain ⟨b, hgb⟩ : ∃ b, goodName t.srel = b := ⟨_, rfl⟩
      rw [hgb]
      have B6 := hide (bTr (unhide B5) hb)
      replace TA := hide ((unhide TA).keep hb)
      clear d5 hb
      cases b
      · have hn := hide (unhide NO (fun h => h.p5.elim (fun h => unhide HR h) (fun h => (by rw [hgb] at h; cases h))))
        go_wp2_with fail
        go_ret
        exact ⟨retB (b := false) (unhide hn), unhide B6⟩
      have P5 := hide (show NamP t.srel from .inr hgb)
      clear hgb
      by_cases hc : t.cav = ⟨#[]⟩
      · have d6 := (unhide TA).d6
        rw [hc] at d6
        have d7 := (unhide TA).d7
        have d8 := (unhide TA).d8
        have d9 := (unhide TA).d9
        have d10 := (unhide TA).d10
        have d11 := (unhide TA).d11
        have d12 := (unhide TA).d12
        have d13 := (unhide TA).d13
        have HC := hide hc
        clear hc
        go_wp2_with fail
        refine (unhide q7 _).mono ?_
        rintro e w' ⟨⟨b, rfl, hgb⟩, hb⟩
        have BB := hide (bTr (unhide B6) hb)
        have HG := hide (show b = true ↔ Form t from ⟨fun h => ⟨unhide P0, unhide P1, unhide P2, unhide P3, unhide P4, unhide P5, .inl (unhide HC), .inl ⟨unhide HC, hgb.1 h⟩⟩, fun h => hgb.2 (h.p7.elim (fun h => h.2) (fun h => absurd (unhide HC) h.1))⟩)
        clear hgb hb d6 d7 d8 d9 d10 d11 d12 d13
        go_wp2_with fail
        go_ret
        exact ⟨retB (unhide HG), unhide BB⟩
      · have hc2 := ne_list hc
        have HC := hide hc
        clear hc
        have d6 := (unhide TA).d6
        go_wp2_with fail
        refine (unhide q6 _).mono ?_
        rintro e w' ⟨rfl, hb⟩
        obtain ⟨b, hgb⟩ : ∃ b, goodName t.cav = b := ⟨_, rfl⟩
        rw [hgb]
        have BB := hide (bTr (unhide B6) hb)
        replace TA := hide ((unhide TA).keep hb)
        clear d6 hb
        cases b
        · have hn := hide (unhide NO (fun h => h.p6.elim (fun h => unhide HC h) (fun h => (by rw [hgb] at h; cases h))))
          go_wp2_with fail
          go_ret
          exact ⟨retB (b := false) (unhide hn), unhide BB⟩
        have P6 := hide hgb
        clear hgb
        have d7 := (unhide TA).d7
        have d8 := (unhide TA).d8
        have d9 := (unhide TA).d9
        have d10 := (unhide TA).d10
        have d11 := (unhide TA).d11
        have d12 := (unhide TA).d12
        have d13 := (unhide TA).d13
        go_wp2_with fail
        refine (unhide q8 _ ((unhide HS1).keep (unhide BB)) ((unhide HS2).keep (unhide BB))).mono ?_
        rintro e w'' ⟨⟨b, rfl, hgb⟩, hb⟩
        have BC := hide (bTr (unhide BB) hb)
        have HG := hide (show b = true ↔ Form t from ⟨fun h => ⟨unhide P0, unhide P1, unhide P2, unhide P3, unhide P4, unhide P5, .inr (unhide P6), .inr ⟨unhide HC, hgb.1 h⟩⟩, fun h => hgb.2 (h.p7.elim (fun h => absurd h.1 (unhide HC)) (fun h => h.2))⟩)
        clear hgb hb d7 d8 d9 d10 d11 d12 d13
        go_wp2_with fail
        go_ret
        exact ⟨retB (unhide HG), unhide BC⟩
end Go.Proofs.YticidjceljjfnaaGreatDoor.V
