/- Tuples' texts: spec.TupleText. -/
import Derived.Test.YticidjceljjfnaaGreatDoorTTxt
import Derived.Test.YticidjceljjfnaaGreatDoorTFrm
namespace Go.Proofs.YticidjceljjfnaaGreatDoor.V
open Go.RowKit
set_option maxRecDepth 20000

def TxtR (t : TupT) (e : Ending) : Prop := ∃ r : ByteArray, e = .returned (.string r) ∧ TxtIs t r
theorem sub_size {t : TupT} (ht : t.Ok) (hf : Form t) : (subT t).size ≤ 300000 := by
  obtain ⟨z0, z1, z2, z3, z4, z5, z6⟩ := hf.small
  unfold subT subR cavR
  have f1 : (⟨#[58]⟩ : ByteArray).size = 1 := rfl
  have f2 : (⟨#[35]⟩ : ByteArray).size = 1 := rfl
  have f3 : (⟨#[91]⟩ : ByteArray).size = 1 := rfl
  have f4 : (⟨#[93]⟩ : ByteArray).size = 1 := rfl
  have f5 : (⟨#[]⟩ : ByteArray).size = 0 := rfl
  by_cases hc : t.cav = ⟨#[]⟩
  · rw [if_pos hc]
    split <;> simp only [ByteArray.size_append] <;> omega
  · have := val_size ht.g (hf.recd hc)
    rw [if_neg hc]
    split <;> simp only [ByteArray.size_append] <;> omega

set_option maxHeartbeats 4000000 in
theorem sTupleText_any (t : TupT) (ht : t.Ok) (a1 a2 : Option Addr) (l1 c1 l2 c2 : Nat) (w : World) (hl : l1 ≤ maxLen) (hs1 : SlA w a1 l1 t.g.items) (hs2 : SlS w a2 l2 t.g.names) :
    Calls Tryz.prog 6 #[tAg t a1 l1 c1 a2 l2 c2] w fun e w' => TxtR t e ∧ Below w.heap.size w w' := by
  obtain ⟨W0, hW0⟩ : ∃ W, W = w.alloc (.cells #[.string t.ty, .string t.id, .string t.rel, .string t.sty, .string t.sid, .string t.srel, .string t.cav, .int .i64 t.g.k, .int .i64 t.g.a.x, .int .i64 t.g.a.n, .string t.g.a.t, .string t.g.a.y, .slice a1 l1 c1, .slice a2 l2 c2] 37) := ⟨_, rfl⟩
  have ta : TupAt W0 w.heap.size t (.slice a1 l1 c1) (.slice a2 l2 c2) := by rw [hW0]; exact TupAt.new _ _ _ _ _
  have b0 : Below w.heap.size w W0 := by rw [hW0]; exact bAl (Below.refl _ _) _
  have HS1 := hide hs1
  have HS2 := hide hs2
  have TA := hide ta
  have B0 := hide b0
  have HW := hide hW0
  have q1 := hide (fun w h1 h2 => l7Form_any t ht a1 a2 l1 c1 l2 c2 w hl h1 h2)
  have q2 := hide (fun (hf : Form t) w h1 h2 => l7Subject_any t ht a1 a2 l1 c1 l2 c2 w h1 h2 hf)
  have zS := hide (fun (hf : Form t) => sub_size ht hf)
  have eT := hide (show tupT t = t.ty ++ ⟨#[58]⟩ ++ t.id ++ ⟨#[35]⟩ ++ t.rel ++ ⟨#[64]⟩ ++ subT t from rfl)
  have HI := hide (fun r => (Iff.rfl : TxtIs t r ↔ ((Form t → r = tupT t) ∧ (¬ Form t → r = ⟨#[]⟩))))
  clear hs1 hs2 ta b0 ht hl hW0
  go_enter Tryz.func6, Tryz.ntmps6
  go_wp2_with fail
  rw [← unhide HW]
  refine (unhide q1 _ ((unhide HS1).keep (unhide B0)) ((unhide HS2).keep (unhide B0))).mono ?_
  rintro e w1 ⟨⟨b, rfl, hgb⟩, hb⟩
  have B1 := hide (bTr (unhide B0) hb)
  replace TA := hide ((unhide TA).keep hb)
  have HG := hide hgb
  clear hgb hb q1 B0
  cases b
  · go_wp2_with fail
    go_ret
    exact ⟨⟨_, rfl, fun h => absurd ((unhide HG).2 h) (by decide), fun _ => rfl⟩, unhide B1⟩
  have hf := (unhide HG).1 rfl
  obtain ⟨z0, z1, z2, z3, z4, z5, z6⟩ := hf.small
  have HF := hide hf
  have zS2 := unhide zS hf
  have qK := hide (fun (x : Kept w1) => unhide q2 hf x.w ((unhide HS1).keep (bTr (unhide B1) x.h)) ((unhide HS2).keep (bTr (unhide B1) x.h)))
  clear hf q2 zS HG
  generalize subT t = ST at eT zS2 qK
  have lt := (unhide TA).lt
  have ne : Nonempty (Kept w1) := ⟨⟨w1, Below.refl _ _⟩⟩
  have x0 := kept_cell lt (unhide TA).d0
  have x1 := kept_cell lt (unhide TA).d1
  have x2 := kept_cell lt (unhide TA).d2
  have x3 := kept_cell lt (unhide TA).d3
  have x4 := kept_cell lt (unhide TA).d4
  have x5 := kept_cell lt (unhide TA).d5
  have x6 := kept_cell lt (unhide TA).d6
  have x7 := kept_cell lt (unhide TA).d7
  have x8 := kept_cell lt (unhide TA).d8
  have x9 := kept_cell lt (unhide TA).d9
  have x10 := kept_cell lt (unhide TA).d10
  have x11 := kept_cell lt (unhide TA).d11
  have x12 := kept_cell lt (unhide TA).d12
  have x13 := kept_cell lt (unhide TA).d13
  have s1 : ¬ 9223372036854775806 < t.ty.size := by omega
  have s2 : ¬ 9223372036854775807 < t.ty.size + 1 + t.id.size := by omega
  have s3 : ¬ 9223372036854775806 < t.ty.size + 1 + t.id.size := by omega
  have s4 : ¬ 9223372036854775807 < t.ty.size + 1 + t.id.size + 1 + t.rel.size := by omega
  have s5 : ¬ 9223372036854775806 < t.ty.size + 1 + t.id.size + 1 + t.rel.size := by omega
  have s6 : ¬ 9223372036854775807 < t.ty.size + 1 + t.id.size + 1 + t.rel.size + 1 + ST.size := by omega
  clear lt
  go_wp2_with fail
  refine wp_region_kept (by kernel_rfl) (by kernel_rfl) ?_
  repeat (first
    | go_big_quiet_step ((go_at_call 16; exact kept_call (unhide qK _)))
    | quiet_step ((go_at_call 16; exact kept_call (unhide qK _))))
  refine wpQuiet_nil ?_
  rintro _ ⟨q, rfl⟩
  obtain ⟨w3, hb3⟩ := q
  go_wp2_with fail
  go_ret
  exact ⟨⟨_, rfl, fun _ => (by rw [unhide eT]), fun h => absurd (unhide HF) h⟩, bTr (unhide B1) hb3⟩
end Go.Proofs.YticidjceljjfnaaGreatDoor.V
