/- TTyi, TRi, one behind the other. -/
import Derived.Test.YticidjceljjfnaaGreatDoorJ25
import Derived.Test.YticidjceljjfnaaGreatDoorJ38
import Derived.Test.YticidjceljjfnaaGreatDoorJ34
/- Tuples' texts: impl.TupleText. -/
namespace Go.Proofs.YticidjceljjfnaaGreatDoor.V
open Go.RowKit
set_option maxRecDepth 20000

def tupM (t : TupT) : ByteArray := t.ty ++ ⟨#[58]⟩ ++ t.id ++ ⟨#[35]⟩ ++ t.rel ++ ⟨#[64]⟩ ++ t.sty ++ ⟨#[58]⟩ ++ t.sid
theorem tup_eq (t : TupT) : tupT t = tupM t ++ subR t ++ cavR t := by
  unfold tupT tupM subT
  apply ByteArray.ext
  simp [ByteArray.data_append, Array.append_assoc]
set_option maxHeartbeats 4000000 in
theorem iTupleText_any (t : TupT) (ht : t.Ok) (a1 a2 : Option Addr) (l1 c1 l2 c2 : Nat) (w : World) (hl : l1 ≤ maxLen) (hT : Tab w) (hs1 : SlA w a1 l1 t.g.items) (hs2 : SlS w a2 l2 t.g.names) :
    Calls Tryz.prog 8 #[tAg t a1 l1 c1 a2 l2 c2] w fun e w' => TxtR t e ∧ Below w.heap.size w w' := by
  obtain ⟨W0, hW0⟩ : ∃ W, W = w.alloc (.cells #[.string t.ty, .string t.id, .string t.rel, .string t.sty, .string t.sid, .string t.srel, .string t.cav, .int .i64 t.g.k, .int .i64 t.g.a.x, .int .i64 t.g.a.n, .string t.g.a.t, .string t.g.a.y, .slice a1 l1 c1, .slice a2 l2 c2] 37) := ⟨_, rfl⟩
  have ta : TupAt W0 w.heap.size t (.slice a1 l1 c1) (.slice a2 l2 c2) := by rw [hW0]; exact TupAt.new _ _ _ _ _
  have b0 : Below w.heap.size w W0 := by rw [hW0]; exact bAl (Below.refl _ _) _
  have HS1 := hide hs1
  have HS2 := hide hs2
  have TA := hide ta
  have B0 := hide b0
  have HW := hide hW0
  have q1 := hide (fun w h1 h2 => hasTupleText_any t ht a1 a2 l1 c1 l2 c2 w hl h1 h2)
  have q2 := hide (fun (hg : GoodVal t.g) w hT h1 h2 => iValueText_yes t.g ht.g a1 a2 l1 c1 l2 c2 w hl hT h1 h2 hg)
  have zX := hide (fun (hf : Form t) (hc : t.cav ≠ ⟨#[]⟩) => val_size ht.g (hf.recd hc))
  have HT := hide hT
  clear hs1 hs2 ta b0 ht hl hW0 hT
  go_enter Tryz.func8, Tryz.ntmps8
  go_wp2_with fail
  rw [← unhide HW]
  refine (unhide q1 _ ((unhide HS1).keep (unhide B0)) ((unhide HS2).keep (unhide B0))).mono ?_
  rintro e w1 ⟨⟨b, rfl, hgb⟩, hb⟩
  have B1 := hide (bTr (unhide B0) hb)
  replace TA := hide ((unhide TA).keep hb)
  have HG := hide hgb
  clear hgb hb q1 B0
  cases b
  · go_wp2_with fail
    go_ret
    exact ⟨⟨_, rfl, fun h => absurd ((unhide HG).2 h) (by decide), fun _ => rfl⟩, unhide B1⟩
  have hf := (unhide HG).1 rfl
  obtain ⟨z0, z1, z2, z3, z4, z5, z6⟩ := hf.small
  have HF := hide hf
  have qV := hide (fun (hc : t.cav ≠ ⟨#[]⟩) => unhide q2 (hf.recd hc).2)
  have zX1 := hide (fun (hc : t.cav ≠ ⟨#[]⟩) => unhide zX hf hc)
  have eT := hide (show tupT t = t.ty ++ (⟨#[58]⟩ : ByteArray) ++ t.id ++ ⟨#[35]⟩ ++ t.rel ++ ⟨#[64]⟩ ++ t.sty ++ ⟨#[58]⟩ ++ t.sid ++ subR t ++ cavR t from tup_eq t)
  have e1 := hide (fun (h : t.srel = ⟨#[]⟩) => show subR t = ⟨#[]⟩ from if_pos h)
  have e2 := hide (fun (h : ¬ t.srel = ⟨#[]⟩) => show subR t = (⟨#[35]⟩ : ByteArray) ++ t.srel from if_neg h)
  have e3 := hide (fun (h : t.cav = ⟨#[]⟩) => show cavR t = ⟨#[]⟩ from if_pos h)
  have e4 := hide (fun (h : ¬ t.cav = ⟨#[]⟩) => show cavR t = (⟨#[91]⟩ : ByteArray) ++ t.cav ++ ⟨#[58]⟩ ++ valX t.g ++ ⟨#[93]⟩ from if_neg h)
  have fin := hide (show ∀ r, r = tupT t → TxtIs t r from fun r h => ⟨fun _ => h, fun h => absurd (unhide HF) h⟩)
  generalize tupT t = TT at eT fin
  generalize subR t = SR at eT e1 e2
  generalize cavR t = CR at eT e3 e4
  clear hf HG q2 zX HF
  have d0 := (unhide TA).d0
  have d1 := (unhide TA).d1
  have d2 := (unhide TA).d2
  have d3 := (unhide TA).d3
  have d4 := (unhide TA).d4
  have d5 := (unhide TA).d5
  have d6 := (unhide TA).d6
  have s1 : ¬ 9223372036854775806 < t.ty.size := by omega
  have s2 : ¬ 9223372036854775807 < t.ty.size + 1 + t.id.size := by omega
  have s3 : ¬ 9223372036854775806 < t.ty.size + 1 + t.id.size := by omega
  have s4 : ¬ 9223372036854775807 < t.ty.size + 1 + t.id.size + 1 + t.rel.size := by omega
  have s5 : ¬ 9223372036854775806 < t.ty.size + 1 + t.id.size + 1 + t.rel.size := by omega
  have s6 : ¬ 9223372036854775807 < t.ty.size + 1 + t.id.size + 1 + t.rel.size + 1 + t.sty.size := by omega
  have s7 : ¬ 9223372036854775806 < t.ty.size + 1 + t.id.size + 1 + t.rel.size + 1 + t.sty.size := by omega
  have s8 : ¬ 9223372036854775807 < t.ty.size + 1 + t.id.size + 1 + t.rel.size + 1 + t.sty.size + 1 + t.sid.size := by omega
  by_cases hr : t.srel = ⟨#[]⟩
  · have hr2 := is_emp hr
    replace eT := hide (show TT = t.ty ++ (⟨#[58]⟩ : ByteArray) ++ t.id ++ ⟨#[35]⟩ ++ t.rel ++ ⟨#[64]⟩ ++ t.sty ++ ⟨#[58]⟩ ++ t.sid ++ CR by rw [unhide eT, unhide e1 hr, app_nil])
    clear e1 e2 hr
    by_cases hc : t.cav = ⟨#[]⟩
    · have hc2 := is_emp hc
      have eC := hide (unhide e3 hc)
      clear e3 e4 hc qV zX1
      go_wp2_with fail
      go_ret
      exact ⟨⟨_, rfl, unhide fin _ (by rw [unhide eT, unhide eC, app_nil])⟩, unhide B1⟩
    · have hc2 := ne_list hc
      have eC := hide (unhide e4 hc)
      have zX2 := unhide zX1 hc
      have qK := hide (fun (x : Kept w1) => unhide qV hc x.w ((unhide HT).keep (bTr (unhide B1) x.h)) ((unhide HS1).keep (bTr (unhide B1) x.h)) ((unhide HS2).keep (bTr (unhide B1) x.h)))
      have EX := hide (show (⟨(valL t.g).toArray⟩ : ByteArray) = valX t.g from rfl)
      rw [unhide EX] at qK
      generalize valX t.g = X at eC zX2 qK
      clear e3 e4 zX1 qV hc EX
      have lt := (unhide TA).lt
      have ne : Nonempty (Kept w1) := ⟨⟨w1, Below.refl _ _⟩⟩
      have x6 := kept_cell lt (unhide TA).d6
      have x7 := kept_cell lt (unhide TA).d7
      have x8 := kept_cell lt (unhide TA).d8
      have x9 := kept_cell lt (unhide TA).d9
      have x10 := kept_cell lt (unhide TA).d10
      have x11 := kept_cell lt (unhide TA).d11
      have x12 := kept_cell lt (unhide TA).d12
      have x13 := kept_cell lt (unhide TA).d13
      have r1 : ¬ 9223372036854775807 < 1 + t.cav.size := by omega
      have r2 : ¬ 9223372036854775806 < 1 + t.cav.size := by omega
      have r3 : ¬ 9223372036854775807 < 1 + t.cav.size + 1 + X.size := by omega
      have r4 : ¬ 9223372036854775806 < 1 + t.cav.size + 1 + X.size := by omega
      obtain ⟨O, hO⟩ : ∃ O : ByteArray, t.ty ++ (⟨#[58]⟩ : ByteArray) ++ t.id ++ ⟨#[35]⟩ ++ t.rel ++ ⟨#[64]⟩ ++ t.sty ++ ⟨#[58]⟩ ++ t.sid = O := ⟨_, rfl⟩
      have zO : O.size ≤ 500 := by
        rw [← hO]
        simp only [ByteArray.size_append]
        have f1 : (⟨#[58]⟩ : ByteArray).size = 1 := rfl
        have f2 : (⟨#[35]⟩ : ByteArray).size = 1 := rfl
        have f3 : (⟨#[64]⟩ : ByteArray).size = 1 := rfl
        omega
      have r5 : ¬ 9223372036854775807 < O.size + (1 + t.cav.size + 1 + X.size + 1) := by omega
      have HO := hide hO
      clear hO lt
      go_wp2_with fail
      rw [unhide HO]
      clear d0 d1 d2 d3 d4 d5 d6 s1 s2 s3 s4 s5 s6 s7 s8
      refine wp_region_kept (by kernel_rfl) (by kernel_rfl) ?_
      repeat (first
        | go_big_quiet_step ((go_at_call 19; exact kept_call (unhide qK _)))
        | quiet_step ((go_at_call 19; exact kept_call (unhide qK _))))
      refine wpQuiet_nil ?_
      rintro _ ⟨q, rfl⟩
      obtain ⟨w3, hb3⟩ := q
      go_wp2_with fail
      go_ret
      exact ⟨⟨_, rfl, unhide fin _ (by rw [unhide eT, unhide eC, unhide HO])⟩, bTr (unhide B1) hb3⟩
  · have hr2 := ne_list hr
    replace eT := hide (show TT = t.ty ++ (⟨#[58]⟩ : ByteArray) ++ t.id ++ ⟨#[35]⟩ ++ t.rel ++ ⟨#[64]⟩ ++ t.sty ++ ⟨#[58]⟩ ++ t.sid ++ ((⟨#[35]⟩ : ByteArray) ++ t.srel) ++ CR by rw [unhide eT, unhide e2 hr])
    clear e1 e2 hr
    by_cases hc : t.cav = ⟨#[]⟩
    · have hc2 := is_emp hc
      have eC := hide (unhide e3 hc)
      clear e3 e4 hc qV zX1
      go_wp2_with fail
      go_ret
      exact ⟨⟨_, rfl, unhide fin _ (by rw [unhide eT, unhide eC, app_nil])⟩, unhide B1⟩
    · have hc2 := ne_list hc
      have eC := hide (unhide e4 hc)
      have zX2 := unhide zX1 hc
      have qK := hide (fun (x : Kept w1) => unhide qV hc x.w ((unhide HT).keep (bTr (unhide B1) x.h)) ((unhide HS1).keep (bTr (unhide B1) x.h)) ((unhide HS2).keep (bTr (unhide B1) x.h)))
      have EX := hide (show (⟨(valL t.g).toArray⟩ : ByteArray) = valX t.g from rfl)
      rw [unhide EX] at qK
      generalize valX t.g = X at eC zX2 qK
      clear e3 e4 zX1 qV hc EX
      have lt := (unhide TA).lt
      have ne : Nonempty (Kept w1) := ⟨⟨w1, Below.refl _ _⟩⟩
      have x6 := kept_cell lt (unhide TA).d6
      have x7 := kept_cell lt (unhide TA).d7
      have x8 := kept_cell lt (unhide TA).d8
      have x9 := kept_cell lt (unhide TA).d9
      have x10 := kept_cell lt (unhide TA).d10
      have x11 := kept_cell lt (unhide TA).d11
      have x12 := kept_cell lt (unhide TA).d12
      have x13 := kept_cell lt (unhide TA).d13
      have r1 : ¬ 9223372036854775807 < 1 + t.cav.size := by omega
      have r2 : ¬ 9223372036854775806 < 1 + t.cav.size := by omega
      have r3 : ¬ 9223372036854775807 < 1 + t.cav.size + 1 + X.size := by omega
      have r4 : ¬ 9223372036854775806 < 1 + t.cav.size + 1 + X.size := by omega
      obtain ⟨O, hO⟩ : ∃ O : ByteArray, t.ty ++ (⟨#[58]⟩ : ByteArray) ++ t.id ++ ⟨#[35]⟩ ++ t.rel ++ ⟨#[64]⟩ ++ t.sty ++ ⟨#[58]⟩ ++ t.sid ++ ((⟨#[35]⟩ : ByteArray) ++ t.srel) = O := ⟨_, rfl⟩
      have zO : O.size ≤ 500 := by
        rw [← hO]
        simp only [ByteArray.size_append]
        have f1 : (⟨#[58]⟩ : ByteArray).size = 1 := rfl
        have f2 : (⟨#[35]⟩ : ByteArray).size = 1 := rfl
        have f3 : (⟨#[64]⟩ : ByteArray).size = 1 := rfl
        omega
      have r5 : ¬ 9223372036854775807 < O.size + (1 + t.cav.size + 1 + X.size + 1) := by omega
      have HO := hide hO
      clear hO lt
      go_wp2_with fail
      rw [unhide HO]
      clear d0 d1 d2 d3 d4 d5 d6 s1 s2 s3 s4 s5 s6 s7 s8
      refine wp_region_kept (by kernel_rfl) (by kernel_rfl) ?_
      repeat (first
        | go_big_quiet_step ((go_at_call 19; exact kept_call (unhide qK _)))
        | quiet_step ((go_at_call 19; exact kept_call (unhide qK _))))
      refine wpQuiet_nil ?_
      rintro _ ⟨q, rfl⟩
      obtain ⟨w3, hb3⟩ := q
      go_wp2_with fail
      go_ret
      exact ⟨⟨_, rfl, unhide fin _ (by rw [unhide eT, unhide eC, unhide HO])⟩, bTr (unhide B1) hb3⟩
end Go.Proofs.YticidjceljjfnaaGreatDoor.V
/- impl.ReadTuple. -/
namespace Go.Proofs.YticidjceljjfnaaGreatDoor.V
open Go.RowKit
set_option maxRecDepth 20000
set_option linter.unusedVariables false
def TRdRet (l : List UInt8) (base : Nat) (e : Ending) (w' : World) : Prop := ∃ t v1 v2 ok, e = .returned (.tuple #[TRet t v1 v2, .bool ok]) ∧ VOwn w' base t.g v1 v2 ∧ Hid (TIs l t ok)
theorem ztup_own (w : World) (base : Nat) : VOwn w base zTup.g (.slice none 0 0) (.slice none 0 0) := VOwn.nil w base 0 zA
set_option maxHeartbeats 4000000 in
theorem iReadTuple_any (s : ByteArray) (w : World) (hs : s.size ≤ 1048576) (hE : Env w) :
    Calls Tryz.prog 11 #[.string s] w fun e w' => TRdRet s.data.toList w.heap.size e w' ∧ Below w.heap.size w w' := by
  have b0 := bAl (Below.refl w.heap.size w) (.cells zT 37)
  have B := hide b0
  have R := hide (RowIs.new w zT 37)
  have q1 := hide (guessTuple_any s _ hs (hE.keep b0))
  have HE := hide hE
  have sz0 : (w.alloc (.cells zT 37)).heap.size = w.heap.size + 1 := by simp
  clear b0 hE
  go_enter Tryz.func11, Tryz.ntmps11
  go_wp2_with fail
  refine (unhide q1).mono ?_
  rintro e w1 ⟨⟨t, v1, v2, rfl, hown, hgu⟩, hb1⟩
  rw [sz0] at hown
  obtain ⟨a1, e1, hv1⟩ := own_sl hown.i
  subst hv1
  obtain ⟨a2, e2, hv2⟩ := own_sl hown.n
  subst hv2
  have lt1 : w.heap.size < w1.heap.size := ((unhide R).keep hb1).lt
  have ba := bAl (Below.refl w1.heap.size w1) (.cells #[.string t.ty, .string t.id, .string t.rel, .string t.sty, .string t.sid, .string t.srel, .string t.cav, .int .i64 t.g.k, .int .i64 t.g.a.x, .int .i64 t.g.a.n, .string t.g.a.t, .string t.g.a.y, .slice a1 t.g.items.length e1, .slice a2 t.g.names.length e2] 37)
  replace R := hide (((unhide R).keep hb1).keep ba)
  have T := hide (RowIs.new w1 #[.string t.ty, .string t.id, .string t.rel, .string t.sty, .string t.sid, .string t.srel, .string t.cav, .int .i64 t.g.k, .int .i64 t.g.a.x, .int .i64 t.g.a.n, .string t.g.a.t, .string t.g.a.y, .slice a1 t.g.items.length e1, .slice a2 t.g.names.length e2] 37)
  have OW := hide (hown.keep ba)
  replace B := hide (bTr (bTr (unhide B) hb1) ba)
  obtain ⟨W, hW⟩ : ∃ W, W = w1.alloc (.cells #[.string t.ty, .string t.id, .string t.rel, .string t.sty, .string t.sid, .string t.srel, .string t.cav, .int .i64 t.g.k, .int .i64 t.g.a.x, .int .i64 t.g.a.n, .string t.g.a.t, .string t.g.a.y, .slice a1 t.g.items.length e1, .slice a2 t.g.names.length e2] 37) := ⟨_, rfl⟩
  have HW := hide hW.symm
  rw [← hW] at R T OW B
  have sW : w1.heap.size < W.heap.size := (unhide T).lt
  clear hb1 ba hown hW q1
  have li : t.g.items.length ≤ maxLen := by
    rcases (unhide OW).i.2 with ⟨_, h⟩ | ⟨_, _, _, _, _, _, h3, h4, _⟩
    · rw [h]; unfold maxLen; omega
    · omega
  have nab : ¬ w1.heap.size = w.heap.size := by omega
  unfold TRet
  by_cases hz : s = e0
  · subst hz
    iterate 20 (try (first | go_values | go_skip | go_guarded | go_step | go_upon | go_simp))
    rw [unhide HW]
    clear HW
    have r0 := ((unhide R)).at (o := 0) (v := .string ⟨#[]⟩) rfl
    have f0 := ((unhide R)).froz 0
    have r1 := ((unhide R)).at (o := 1) (v := .string ⟨#[]⟩) rfl
    have f1 := ((unhide R)).froz 1
    have r2 := ((unhide R)).at (o := 2) (v := .string ⟨#[]⟩) rfl
    have f2 := ((unhide R)).froz 2
    have r3 := ((unhide R)).at (o := 3) (v := .string ⟨#[]⟩) rfl
    have f3 := ((unhide R)).froz 3
    have r4 := ((unhide R)).at (o := 4) (v := .string ⟨#[]⟩) rfl
    have f4 := ((unhide R)).froz 4
    have r5 := ((unhide R)).at (o := 5) (v := .string ⟨#[]⟩) rfl
    have f5 := ((unhide R)).froz 5
    have r6 := ((unhide R)).at (o := 6) (v := .string ⟨#[]⟩) rfl
    have f6 := ((unhide R)).froz 6
    have r7 := ((unhide R)).at (o := 7) (v := .int .i64 0) rfl
    have f7 := ((unhide R)).froz 7
    have r8 := ((unhide R)).at (o := 8) (v := .int .i64 0) rfl
    have f8 := ((unhide R)).froz 8
    have r9 := ((unhide R)).at (o := 9) (v := .int .i64 0) rfl
    have f9 := ((unhide R)).froz 9
    have r10 := ((unhide R)).at (o := 10) (v := .string ⟨#[]⟩) rfl
    have f10 := ((unhide R)).froz 10
    have r11 := ((unhide R)).at (o := 11) (v := .string ⟨#[]⟩) rfl
    have f11 := ((unhide R)).froz 11
    have r12 := ((unhide R)).at (o := 12) (v := .slice none 0 0) rfl
    have f12 := ((unhide R)).froz 12
    have r13 := ((unhide R)).at (o := 13) (v := .slice none 0 0) rfl
    have f13 := ((unhide R)).froz 13
    go_wp2_with fail
    refine bodyPost_ret (v := .tuple #[TRet zTup (.slice none 0 0) (.slice none 0 0), .bool false]) (by simp [results, Tryz.results11, go_sem, TRet, r0, r1, r2, r3, r4, r5, r6, r7, r8, r9, r10, r11, r12, r13]) rfl ⟨⟨_, _, _, _, rfl, ztup_own _ _, hide tis_nil⟩, ?_⟩
    exact (below_set (below_set (below_set (below_set (below_set (below_set (below_set (below_set (below_set (below_set (below_set (below_set (below_set (below_set (unhide B) (Nat.le_refl _)) (Nat.le_refl _)) (Nat.le_refl _)) (Nat.le_refl _)) (Nat.le_refl _)) (Nat.le_refl _)) (Nat.le_refl _)) (Nat.le_refl _)) (Nat.le_refl _)) (Nat.le_refl _)) (Nat.le_refl _)) (Nat.le_refl _)) (Nat.le_refl _)) (Nat.le_refl _))
  have q2 := hide (iTupleText_any t (unhide hgu).ok a1 a2 t.g.items.length e1 t.g.names.length e2 W li ((unhide HE).keep (unhide B)).tab (sla_own (unhide OW).i) (sls_own (unhide OW).n))
  have hne := ne_list hz
  have zs := hide (show 1 ≤ s.size from Nat.pos_of_ne_zero (fun h => hz (emp_list.2 (List.eq_nil_of_length_eq_zero (by simpa using h)))))
  clear hz li
  iterate 20 (try (first | go_values | go_skip | go_guarded | go_step | go_upon | go_simp))
  rw [unhide HW]
  clear HW
  have d0 := ((unhide T)).at (o := 0) (v := .string t.ty) rfl
  have d1 := ((unhide T)).at (o := 1) (v := .string t.id) rfl
  have d2 := ((unhide T)).at (o := 2) (v := .string t.rel) rfl
  have d3 := ((unhide T)).at (o := 3) (v := .string t.sty) rfl
  have d4 := ((unhide T)).at (o := 4) (v := .string t.sid) rfl
  have d5 := ((unhide T)).at (o := 5) (v := .string t.srel) rfl
  have d6 := ((unhide T)).at (o := 6) (v := .string t.cav) rfl
  have d7 := ((unhide T)).at (o := 7) (v := .int .i64 t.g.k) rfl
  have d8 := ((unhide T)).at (o := 8) (v := .int .i64 t.g.a.x) rfl
  have d9 := ((unhide T)).at (o := 9) (v := .int .i64 t.g.a.n) rfl
  have d10 := ((unhide T)).at (o := 10) (v := .string t.g.a.t) rfl
  have d11 := ((unhide T)).at (o := 11) (v := .string t.g.a.y) rfl
  have d12 := ((unhide T)).at (o := 12) (v := .slice a1 t.g.items.length e1) rfl
  have d13 := ((unhide T)).at (o := 13) (v := .slice a2 t.g.names.length e2) rfl
  go_wp2_with fail
  refine (unhide q2).mono ?_
  rintro e w2 ⟨⟨r, rfl, htx⟩, hb2⟩
  have E := hide (tis_end (unhide zs) (unhide hgu) htx)
  replace R := hide ((unhide R).keep hb2)
  replace T := hide ((unhide T).keep hb2)
  replace OW := hide ((unhide OW).keep hb2)
  replace B := hide (bTr (unhide B) hb2)
  clear hb2 q2 htx hgu d0 d1 d2 d3 d4 d5 d6 d7 d8 d9 d10 d11 d12 d13
  by_cases hx : r = s
  · have TI := hide ((unhide E).1 hx)
    have hx2 : (r.toList == s.toList) = true := by rw [hx]; simp
    clear hx E
    have d0 := ((unhide T)).at (o := 0) (v := .string t.ty) rfl
    have d1 := ((unhide T)).at (o := 1) (v := .string t.id) rfl
    have d2 := ((unhide T)).at (o := 2) (v := .string t.rel) rfl
    have d3 := ((unhide T)).at (o := 3) (v := .string t.sty) rfl
    have d4 := ((unhide T)).at (o := 4) (v := .string t.sid) rfl
    have d5 := ((unhide T)).at (o := 5) (v := .string t.srel) rfl
    have d6 := ((unhide T)).at (o := 6) (v := .string t.cav) rfl
    have d7 := ((unhide T)).at (o := 7) (v := .int .i64 t.g.k) rfl
    have d8 := ((unhide T)).at (o := 8) (v := .int .i64 t.g.a.x) rfl
    have d9 := ((unhide T)).at (o := 9) (v := .int .i64 t.g.a.n) rfl
    have d10 := ((unhide T)).at (o := 10) (v := .string t.g.a.t) rfl
    have d11 := ((unhide T)).at (o := 11) (v := .string t.g.a.y) rfl
    have d12 := ((unhide T)).at (o := 12) (v := .slice a1 t.g.items.length e1) rfl
    have d13 := ((unhide T)).at (o := 13) (v := .slice a2 t.g.names.length e2) rfl
    have r0 := ((unhide R)).at (o := 0) (v := .string ⟨#[]⟩) rfl
    have f0 := ((unhide R)).froz 0
    have r1 := ((unhide R)).at (o := 1) (v := .string ⟨#[]⟩) rfl
    have f1 := ((unhide R)).froz 1
    have r2 := ((unhide R)).at (o := 2) (v := .string ⟨#[]⟩) rfl
    have f2 := ((unhide R)).froz 2
    have r3 := ((unhide R)).at (o := 3) (v := .string ⟨#[]⟩) rfl
    have f3 := ((unhide R)).froz 3
    have r4 := ((unhide R)).at (o := 4) (v := .string ⟨#[]⟩) rfl
    have f4 := ((unhide R)).froz 4
    have r5 := ((unhide R)).at (o := 5) (v := .string ⟨#[]⟩) rfl
    have f5 := ((unhide R)).froz 5
    have r6 := ((unhide R)).at (o := 6) (v := .string ⟨#[]⟩) rfl
    have f6 := ((unhide R)).froz 6
    have r7 := ((unhide R)).at (o := 7) (v := .int .i64 0) rfl
    have f7 := ((unhide R)).froz 7
    have r8 := ((unhide R)).at (o := 8) (v := .int .i64 0) rfl
    have f8 := ((unhide R)).froz 8
    have r9 := ((unhide R)).at (o := 9) (v := .int .i64 0) rfl
    have f9 := ((unhide R)).froz 9
    have r10 := ((unhide R)).at (o := 10) (v := .string ⟨#[]⟩) rfl
    have f10 := ((unhide R)).froz 10
    have r11 := ((unhide R)).at (o := 11) (v := .string ⟨#[]⟩) rfl
    have f11 := ((unhide R)).froz 11
    have r12 := ((unhide R)).at (o := 12) (v := .slice none 0 0) rfl
    have f12 := ((unhide R)).froz 12
    have r13 := ((unhide R)).at (o := 13) (v := .slice none 0 0) rfl
    have f13 := ((unhide R)).froz 13
    go_wp2_with fail
    refine bodyPost_ret (v := .tuple #[TRet t (.slice a1 t.g.items.length e1) (.slice a2 t.g.names.length e2), .bool true]) (by simp [results, Tryz.results11, go_sem, TRet, r0, r1, r2, r3, r4, r5, r6, r7, r8, r9, r10, r11, r12, r13]) rfl ⟨⟨_, _, _, _, rfl, vown_set14 (unhide OW) (by omega) (by omega), TI⟩, ?_⟩
    exact (below_set (below_set (below_set (below_set (below_set (below_set (below_set (below_set (below_set (below_set (below_set (below_set (below_set (below_set (unhide B) (Nat.le_refl _)) (Nat.le_refl _)) (Nat.le_refl _)) (Nat.le_refl _)) (Nat.le_refl _)) (Nat.le_refl _)) (Nat.le_refl _)) (Nat.le_refl _)) (Nat.le_refl _)) (Nat.le_refl _)) (Nat.le_refl _)) (Nat.le_refl _)) (Nat.le_refl _)) (Nat.le_refl _))
  · have TI := hide ((unhide E).2 hx)
    have hx2 := ne_str hx
    clear hx E
    have r0 := ((unhide R)).at (o := 0) (v := .string ⟨#[]⟩) rfl
    have f0 := ((unhide R)).froz 0
    have r1 := ((unhide R)).at (o := 1) (v := .string ⟨#[]⟩) rfl
    have f1 := ((unhide R)).froz 1
    have r2 := ((unhide R)).at (o := 2) (v := .string ⟨#[]⟩) rfl
    have f2 := ((unhide R)).froz 2
    have r3 := ((unhide R)).at (o := 3) (v := .string ⟨#[]⟩) rfl
    have f3 := ((unhide R)).froz 3
    have r4 := ((unhide R)).at (o := 4) (v := .string ⟨#[]⟩) rfl
    have f4 := ((unhide R)).froz 4
    have r5 := ((unhide R)).at (o := 5) (v := .string ⟨#[]⟩) rfl
    have f5 := ((unhide R)).froz 5
    have r6 := ((unhide R)).at (o := 6) (v := .string ⟨#[]⟩) rfl
    have f6 := ((unhide R)).froz 6
    have r7 := ((unhide R)).at (o := 7) (v := .int .i64 0) rfl
    have f7 := ((unhide R)).froz 7
    have r8 := ((unhide R)).at (o := 8) (v := .int .i64 0) rfl
    have f8 := ((unhide R)).froz 8
    have r9 := ((unhide R)).at (o := 9) (v := .int .i64 0) rfl
    have f9 := ((unhide R)).froz 9
    have r10 := ((unhide R)).at (o := 10) (v := .string ⟨#[]⟩) rfl
    have f10 := ((unhide R)).froz 10
    have r11 := ((unhide R)).at (o := 11) (v := .string ⟨#[]⟩) rfl
    have f11 := ((unhide R)).froz 11
    have r12 := ((unhide R)).at (o := 12) (v := .slice none 0 0) rfl
    have f12 := ((unhide R)).froz 12
    have r13 := ((unhide R)).at (o := 13) (v := .slice none 0 0) rfl
    have f13 := ((unhide R)).froz 13
    go_wp2_with fail
    refine bodyPost_ret (v := .tuple #[TRet zTup (.slice none 0 0) (.slice none 0 0), .bool false]) (by simp [results, Tryz.results11, go_sem, TRet, r0, r1, r2, r3, r4, r5, r6, r7, r8, r9, r10, r11, r12, r13]) rfl ⟨⟨_, _, _, _, rfl, ztup_own _ _, hide (unhide TI)⟩, ?_⟩
    exact (below_set (below_set (below_set (below_set (below_set (below_set (below_set (below_set (below_set (below_set (below_set (below_set (below_set (below_set (unhide B) (Nat.le_refl _)) (Nat.le_refl _)) (Nat.le_refl _)) (Nat.le_refl _)) (Nat.le_refl _)) (Nat.le_refl _)) (Nat.le_refl _)) (Nat.le_refl _)) (Nat.le_refl _)) (Nat.le_refl _)) (Nat.le_refl _)) (Nat.le_refl _)) (Nat.le_refl _)) (Nat.le_refl _))
end Go.Proofs.YticidjceljjfnaaGreatDoor.V
