/- Tuples' texts: impl.TupleText. -/
import Derived.Test.YticidjceljjfnaaGreatDoorTTys
import Derived.Test.YticidjceljjfnaaGreatDoorTHas
import Derived.Test.YticidjceljjfnaaGreatDoorWVtJ
namespace Go.Proofs.YticidjceljjfnaaGreatDoor.V
open Go.RowKit
set_option maxRecDepth 20000

def tupM (t : TupT) : ByteArray := t.ty ++ ⟨#[58]⟩ ++ t.id ++ ⟨#[35]⟩ ++ t.rel ++ ⟨#[64]⟩ ++ t.sty ++ ⟨#[58]⟩ ++ t.sid
theorem tup_eq (t : TupT) : tupT t = tupM t ++ subR t ++ cavR t := by
  unfold tupT tupM subT
  apply ByteArray.ext
  simp [ByteArray.data_append, Array.append_assoc]
set_option maxHeartbeats 4000000 in
theorem iTupleText_any (t : TupT) (ht : t.Ok) (a1 a2 : Option Addr) (l1 c1 l2 c2 : Nat) (w : World) (hl : l1 ≤ maxLen) (hT : Tab w) (hs1 : SlA w a1 l1 t.g.items) (hs2 : SlS w a2 l2 t.g.names) :
    Calls Tryz.prog 8 #[tAg t a1 l1 c1 a2 l2 c2] w fun e w' => TxtR t e ∧ Below w.heap.size w w' := by
  obtain ⟨W0, hW0⟩ : ∃ W, W = w.alloc (.cells #[.string t.ty, .string t.id, .string t.rel, .string t.sty, .string t.sid, .string t.srel, .string t.cav, .int .i64 t.g.k, .int .i64 t.g.a.x, .int .i64 t.g.a.n, .string t.g.a.t, .string t.g.a.y, .slice a1 l1 c1, .slice a2 l2 c2] 37) := ⟨_, rfl⟩
  have ta : TupAt W0 w.heap.size t (.slice a1 l1 c1) (.slice a2 l2 c2) := by rw [hW0]; exact TupAt.new _ _ _ _ _
  have b0 : Below w.heap.size w W0 := by rw [hW0]; exact bAl (Below.refl _ _) _
  have HS1 := hide hs1
  have HS2 := hide hs2
  have TA := hide ta
  have B0 := hide b0
  have HW := hide hW0
  have q1 := hide (fun w h1 h2 => hasTupleText_any t ht a1 a2 l1 c1 l2 c2 w hl h1 h2)
  have q2 := hide (fun (hg : GoodVal t.g) w hT h1 h2 => iValueText_yes t.g ht.g a1 a2 l1 c1 l2 c2 w hl hT h1 h2 hg)
  have zX := hide (fun (hf : Form t) (hc : t.cav ≠ ⟨#[]⟩) => val_size ht.g (hf.recd hc))
  have HT := hide hT
  clear hs1 hs2 ta b0 ht hl hW0 hT
  go_enter Tryz.func8, Tryz.ntmps8
  go_wp2_with fail
  rw [← unhide HW]
  refine (unhide q1 _ ((unhide HS1).keep (unhide B0)) ((unhide HS2).keep (unhide B0))).mono ?_
  rintro e w1 ⟨⟨b, rfl, hgb⟩, hb⟩
  have B1 := hide (bTr (unhide B0) hb)
  replace TA := hide ((unhide TA).keep hb)
  have HG := hide hgb
  clear hgb hb q1 B0
  cases b
  · go_wp2_with fail
    go_ret
    exact ⟨⟨_, rfl, fun h => absurd ((unhide HG).2 h) (by decide), fun _ => rfl⟩, unhide B1⟩
  have hf := (unhide HG).1 rfl
  obtain ⟨z0, z1, z2, z3, z4, z5, z6⟩ := hf.small
  have HF := hide hf
  have qV := hide (fun (hc : t.cav ≠ ⟨#[]⟩) => unhide q2 (hf.recd hc).2)
  have zX1 := hide (fun (hc : t.cav ≠ ⟨#[]⟩) => unhide zX hf hc)
  have eT := hide (show tupT t = t.ty ++ (⟨#[58]⟩ : ByteArray) ++ t.id ++ ⟨#[35]⟩ ++ t.rel ++ ⟨#[64]⟩ ++ t.sty ++ ⟨#[58]⟩ ++ t.sid ++ subR t ++ cavR t from tup_eq t)
  have e1 := hide (fun (h : t.srel = ⟨#[]⟩) => show subR t = ⟨#[]⟩ from if_pos h)
  have e2 := hide (fun (h : ¬ t.srel = ⟨#[]⟩) => show subR t = (⟨#[35]⟩ : ByteArray) ++ t.srel from if_neg h)
  have e3 := hide (fun (h : t.cav = ⟨#[]⟩) => show cavR t = ⟨#[]⟩ from if_pos h)
  have e4 := hide (fun (h : ¬ t.cav = ⟨#[]⟩) => show cavR t = (⟨#[91]⟩ : ByteArray) ++ t.cav ++ ⟨#[58]⟩ ++ valX t.g ++ ⟨#[93]⟩ from if_neg h)
  have fin := hide (show ∀ r, r = tupT t → TxtIs t r from fun r h => ⟨fun _ => h, fun h => absurd (unhide HF) h⟩)
  generalize tupT t = TT at eT fin
  generalize subR t = SR at eT e1 e2
  generalize cavR t = CR at eT e3 e4
  clear hf HG q2 zX HF
  have d0 := (unhide TA).d0
  have d1 := (unhide TA).d1
  have d2 := (unhide TA).d2
  have d3 := (unhide TA).d3
  have d4 := (unhide TA).d4
  have d5 := (unhide TA).d5
  have d6 := (unhide TA).d6
  have s1 : ¬ 9223372036854775806 < t.ty.size := by omega
  have s2 : ¬ 9223372036854775807 < t.ty.size + 1 + t.id.size := by omega
  have s3 : ¬ 9223372036854775806 < t.ty.size + 1 + t.id.size := by omega
  have s4 : ¬ 9223372036854775807 < t.ty.size + 1 + t.id.size + 1 + t.rel.size := by omega
  have s5 : ¬ 9223372036854775806 < t.ty.size + 1 + t.id.size + 1 + t.rel.size := by omega
  have s6 : ¬ 9223372036854775807 < t.ty.size + 1 + t.id.size + 1 + t.rel.size + 1 + t.sty.size := by omega
  have s7 : ¬ 9223372036854775806 < t.ty.size + 1 + t.id.size + 1 + t.rel.size + 1 + t.sty.size := by omega
  have s8 : ¬ 9223372036854775807 < t.ty.size + 1 + t.id.size + 1 + t.rel.size + 1 + t.sty.size + 1 + t.sid.size := by omega
  by_cases hr : t.srel = ⟨#[]⟩
  · have hr2 := is_emp hr
    replace eT := hide (show TT = t.ty ++ (⟨#[58]⟩ : ByteArray) ++ t.id ++ ⟨#[35]⟩ ++ t.rel ++ ⟨#[64]⟩ ++ t.sty ++ ⟨#[58]⟩ ++ t.sid ++ CR by rw [unhide eT, unhide e1 hr, app_nil])
    clear e1 e2 hr
    by_cases hc : t.cav = ⟨#[]⟩
    · have hc2 := is_emp hc
      have eC := hide (unhide e3 hc)
      clear e3 e4 hc qV zX1
      go_wp2_with fail
      go_ret
      exact ⟨⟨_, rfl, unhide fin _ (by rw [unhide eT, unhide eC, app_nil])⟩, unhide B1⟩
    · have hc2 := ne_list hc
      have eC := hide (unhide e4 hc)
      have zX2 := unhide zX1 hc
      have qK := hide (fun (x : Kept w1) => unhide qV hc x.w ((unhide HT).keep (bTr (unhide B1) x.h)) ((unhide HS1).keep (bTr (unhide B1) x.h)) ((unhide HS2).keep (bTr (unhide B1) x.h)))
      have EX := hide (show (⟨(valL t.g).toArray⟩ : ByteArray) = valX t.g from rfl)
      rw [unhide EX] at qK
      generalize valX t.g = X at eC zX2 qK
      clear e3 e4 zX1 qV hc EX
      have lt := (unhide TA).lt
      have ne : Nonempty (Kept w1) := ⟨⟨w1, Below.refl _ _⟩⟩
      have x6 := kept_cell lt (unhide TA).d6
      have x7 := kept_cell lt (unhide TA).d7
      have x8 := kept_cell lt (unhide TA).d8
      have x9 := kept_cell lt (unhide TA).d9
      have x10 := kept_cell lt (unhide TA).d10
      have x11 := kept_cell lt (unhide TA).d11
      have x12 := kept_cell lt (unhide TA).d12
      have x13 := kept_cell lt (unhide TA).d13
      have r1 : ¬ 9223372036854775807 < 1 + t.cav.size := by omega
      have r2 : ¬ 9223372036854775806 < 1 + t.cav.size := by omega
      have r3 : ¬ 9223372036854775807 < 1 + t.cav.size + 1 + X.size := by omega
      have r4 : ¬ 9223372036854775806 < 1 + t.cav.size + 1 + X.size := by omega
      obtain ⟨O, hO⟩ : ∃ O : ByteArray, t.ty ++ (⟨#[58]⟩ : ByteArray) ++ t.id ++ ⟨#[35]⟩ ++ t.rel ++ ⟨#[64]⟩ ++ t.sty ++ ⟨#[58]⟩ ++ t.sid = O := ⟨_, rfl⟩
      have zO : O.size ≤ 500 := by
        rw [← hO]
        simp only [ByteArray.size_append]
        have f1 : (⟨#[58]⟩ : ByteArray).size = 1 := rfl
        have f2 : (⟨#[35]⟩ : ByteArray).size = 1 := rfl
        have f3 : (⟨#[64]⟩ : ByteArray).size = 1 := rfl
        omega
      have r5 : ¬ 9223372036854775807 < O.size + (1 + t.cav.size + 1 + X.size + 1) := by omega
      have HO := hide hO
      clear hO lt
      go_wp2_with fail
      rw [unhide HO]
      clear d0 d1 d2 d3 d4 d5 d6 s1 s2 s3 s4 s5 s6 s7 s8
      refine wp_region_kept (by kernel_rfl) (by kernel_rfl) ?_
      repeat (first
        | go_big_quiet_step ((go_at_call 19; exact kept_call (unhide qK _)))
        | quiet_step ((go_at_call 19; exact kept_call (unhide qK _))))
      refine wpQuiet_nil ?_
      rintro _ ⟨q, rfl⟩
      obtain ⟨w3, hb3⟩ := q
      go_wp2_with fail
      go_ret
      exact ⟨⟨_, rfl, unhide fin _ (by rw [unhide eT, unhide eC, unhide HO])⟩, bTr (unhide B1) hb3⟩
  · have hr2 := ne_list hr
    replace eT := hide (show TT = t.ty ++ (⟨#[58]⟩ : ByteArray) ++ t.id ++ ⟨#[35]⟩ ++ t.rel ++ ⟨#[64]⟩ ++ t.sty ++ ⟨#[58]⟩ ++ t.sid ++ ((⟨#[35]⟩ : ByteArray) ++ t.srel) ++ CR by rw [unhide eT, unhide e2 hr])
    clear e1 e2 hr
    by_cases hc : t.cav = ⟨#[]⟩
    · have hc2 := is_emp hc
      have eC := hide (unhide e3 hc)
      clear e3 e4 hc qV zX1
      go_wp2_with fail
      go_ret
      exact ⟨⟨_, rfl, unhide fin _ (by rw [unhide eT, unhide eC, app_nil])⟩, unhide B1⟩
    · have hc2 := ne_list hc
      have eC := hide (unhide e4 hc)
      have zX2 := unhide zX1 hc
      have qK := hide (fun (x : Kept w1) => unhide qV hc x.w ((unhide HT).keep (bTr (unhide B1) x.h)) ((unhide HS1).keep (bTr (unhide B1) x.h)) ((unhide HS2).keep (bTr (unhide B1) x.h)))
      have EX := hide (show (⟨(valL t.g).toArray⟩ : ByteArray) = valX t.g from rfl)
      rw [unhide EX] at qK
      generalize valX t.g = X at eC zX2 qK
      clear e3 e4 zX1 qV hc EX
      have lt := (unhide TA).lt
      have ne : Nonempty (Kept w1) := ⟨⟨w1, Below.refl _ _⟩⟩
      have x6 := kept_cell lt (unhide TA).d6
      have x7 := kept_cell lt (unhide TA).d7
      have x8 := kept_cell lt (unhide TA).d8
      have x9 := kept_cell lt (unhide TA).d9
      have x10 := kept_cell lt (unhide TA).d10
      have x11 := kept_cell lt (unhide TA).d11
      have x12 := kept_cell lt (unhide TA).d12
      have x13 := kept_cell lt (unhide TA).d13
      have r1 : ¬ 9223372036854775807 < 1 + t.cav.size := by omega
      have r2 : ¬ 9223372036854775806 < 1 + t.cav.size := by omega
      have r3 : ¬ 9223372036854775807 < 1 + t.cav.size + 1 + X.size := by omega
      have r4 : ¬ 9223372036854775806 < 1 + t.cav.size + 1 + X.size := by omega
      obtain ⟨O, hO⟩ : ∃ O : ByteArray, t.ty ++ (⟨#[58]⟩ : ByteArray) ++ t.id ++ ⟨#[35]⟩ ++ t.rel ++ ⟨#[64]⟩ ++ t.sty ++ ⟨#[58]⟩ ++ t.sid ++ ((⟨#[35]⟩ : ByteArray) ++ t.srel) = O := ⟨_, rfl⟩
      have zO : O.size ≤ 500 := by
        rw [← hO]
        simp only [ByteArray.size_append]
        have f1 : (⟨#[58]⟩ : ByteArray).size = 1 := rfl
        have f2 : (⟨#[35]⟩ : ByteArray).size = 1 := rfl
        have f3 : (⟨#[64]⟩ : ByteArray).size = 1 := rfl
        omega
      have r5 : ¬ 9223372036854775807 < O.size + (1 + t.cav.size + 1 + X.size + 1) := by omega
      have HO := hide hO
      clear hO lt
      go_wp2_with fail
      rw [unhide HO]
      clear d0 d1 d2 d3 d4 d5 d6 s1 s2 s3 s4 s5 s6 s7 s8
      refine wp_region_kept (by kernel_rfl) (by kernel_rfl) ?_
      repeat (first
        | go_big_quiet_step ((go_at_call 19; exact kept_call (unhide qK _)))
        | quiet_step ((go_at_call 19; exact kept_call (unhide qK _))))
      refine wpQuiet_nil ?_
      rintro _ ⟨q, rfl⟩
      obtain ⟨w3, hb3⟩ := q
      go_wp2_with fail
      go_ret
      exact ⟨⟨_, rfl, unhide fin _ (by rw [unhide eT, unhide eC, unhide HO])⟩, bTr (unhide B1) hb3⟩
end Go.Proofs.YticidjceljjfnaaGreatDoor.V
