/- TLw, one behind the other. -/
import Derived.Test.YticidjceljjfnaaGreatDoorJ21
import Derived.Test.YticidjceljjfnaaGreatDoorJ45
import Derived.Test.YticidjceljjfnaaGreatDoorJ46
/- A tuple in the laws: szTuple, toTuple, eqTuple; a tuple that came in. -/
namespace Go.Proofs.YticidjceljjfnaaGreatDoor.V
open Go.ChangeShapes Go.WideShapes Go.RowKit
set_option maxRecDepth 20000

set_option maxHeartbeats 1000000 in
theorem toValue_new (v : ValT) (a1 a2 : Option Addr) (l1 c1 l2 c2 : Nat) (w : World) (hl1 : l1 ≤ 1048576) (hl2 : l2 ≤ 1048576)
    (hs1 : SlA w a1 l1 v.items) (hs2 : SlS w a2 l2 v.names) :
    Calls Tryz.prog 17 #[.agg #[.int .i64 v.k, .int .i64 v.a.x, .int .i64 v.a.n, .string v.a.t, .string v.a.y, .slice a1 l1 c1, .slice a2 l2 c2]] w
      fun e w' => ∃ b1 b2, e = .returned (.agg #[.int .i64 v.k, .int .i64 v.a.x, .int .i64 v.a.n, .string v.a.t, .string v.a.y, .slice (some ⟨b1, 0, none⟩) l1 l1, .slice (some ⟨b2, 0, none⟩) l2 l2])
        ∧ w.heap.size ≤ b1 ∧ w.heap.size ≤ b2 ∧ AtomRow w' b1 0 v.items ∧ StrRow w' b2 0 v.names ∧ Below w.heap.size w w' := by
  have q2 : Hid (∀ w, SlA w a1 l1 v.items → Calls Tryz.prog 36 #[.slice a1 l1 c1] w fun e w' => ∃ b, e = .returned (.slice (some ⟨b, 0, none⟩) l1 l1) ∧ w.heap.size ≤ b ∧ AtomRow w' b 0 v.items ∧ Below w.heap.size w w') :=
    hide (fun w hs => (toAtomS_any a1 l1 c1 v.items w hl1 hs).mono fun _ _ h => ⟨_, h.1, Nat.le_refl _, h.2.1, h.2.2⟩)
  have q3 : Hid (∀ w, SlS w a2 l2 v.names → Calls Tryz.prog 37 #[.slice a2 l2 c2] w fun e w' => ∃ b, e = .returned (.slice (some ⟨b, 0, none⟩) l2 l2) ∧ w.heap.size ≤ b ∧ StrRow w' b 0 v.names ∧ Below w.heap.size w w') :=
    hide (fun w hs => (toStringS_any a2 l2 c2 v.names w hl2 hs).mono fun _ _ h => ⟨_, h.1, Nat.le_refl _, h.2.1, h.2.2⟩)
  have HS1 := hide hs1
  have HS2 := hide hs2
  clear hs1 hs2 hl1 hl2
  go_enter Tryz.func17, Tryz.ntmps17
  go_wp2_with fail
  refine (toAtom_any _ _ _ _ _).mono ?_
  rintro e w1 ⟨rfl, hb1⟩
  have src := ((((ValAt.new w v (.slice a1 l1 c1) (.slice a2 l2 c2) 27).more _).more _).keep hb1)
  have bw := bTr (bAl (bAl (bAl (Below.refl _ _) _) _) _) hb1
  have ro := ((RowIs.new (w.alloc _) _ _).keep (bAl (Below.refl _ _) _)).keep hb1
  have out := (RowIs.new ((w.alloc _).alloc _) _ _).keep hb1
  simp only [World.size_alloc] at ro out
  clear hb1
  have f1 := out.froz 1
  have f2 := out.froz 2
  have f3 := out.froz 3
  have f4 := out.froz 4
  have k1 : w1.cell? ⟨w.heap.size + 1 + 1, 1, none⟩ = some (.int .i64 0) := out.at rfl
  have k2 : w1.cell? ⟨w.heap.size + 1 + 1, 2, none⟩ = some (.int .i64 0) := out.at rfl
  have k3 : w1.cell? ⟨w.heap.size + 1 + 1, 3, none⟩ = some (.string ⟨#[]⟩) := out.at rfl
  have k4 : w1.cell? ⟨w.heap.size + 1 + 1, 4, none⟩ = some (.string ⟨#[]⟩) := out.at rfl
  have d5 := src.c5
  have n1 : w.heap.size ≠ w.heap.size + 1 + 1 := by omega
  have n2 : w.heap.size + 1 ≠ w.heap.size + 1 + 1 := by omega
  obtain ⟨W1, hW1⟩ : ∃ W, W = (((w1.setCell ⟨w.heap.size + 1 + 1, 1, none⟩ (.int .i64 v.a.x)).setCell ⟨w.heap.size + 1 + 1, 2, none⟩ (.int .i64 v.a.n)).setCell ⟨w.heap.size + 1 + 1, 3, none⟩ (.string v.a.t)).setCell ⟨w.heap.size + 1 + 1, 4, none⟩ (.string v.a.y) := ⟨_, rfl⟩
  have HW1 := hide hW1
  replace out : RowIs W1 (w.heap.size + 1 + 1) #[.int .i64 v.k, .int .i64 v.a.x, .int .i64 v.a.n, .string v.a.t, .string v.a.y, .slice none 0 0, .slice none 0 0] 35 := by
    rw [hW1]; exact (((out.set 1 (.int .i64 v.a.x)).set 2 (.int .i64 v.a.n)).set 3 (.string v.a.t)).set 4 (.string v.a.y)
  replace src : ValAt W1 w.heap.size v (.slice a1 l1 c1) (.slice a2 l2 c2) := by rw [hW1]; exact (((src.setOther _ n1).setOther _ n1).setOther _ n1).setOther _ n1
  replace ro : RowIs W1 (w.heap.size + 1) #[.int .i64 0, .int .i64 0, .int .i64 0, .string ⟨#[]⟩, .string ⟨#[]⟩, .slice none 0 0, .slice none 0 0] 35 := by rw [hW1]; exact (((ro.setOther _ n2).setOther _ n2).setOther _ n2).setOther _ n2
  replace bw : Below w.heap.size w W1 := by rw [hW1]; exact (((bw.setCell (by simp; omega) _).setCell (by simp; omega) _).setCell (by simp; omega) _).setCell (by simp; omega) _
  clear hW1
  go_wp2_with fail
  rw [← unhide HW1]
  clear f1 f2 f3 f4 k1 k2 k3 k4 d5 HW1
  refine (unhide q2 _ ((unhide HS1).keep bw)).mono ?_
  rintro e w2 ⟨b1, rfl, hb1, hrow1, hb⟩
  have gb1 : w.heap.size ≤ b1 := by have := out.lt; omega
  have nb1 : b1 ≠ w.heap.size + 1 + 1 := by have := out.lt; omega
  have mb1 : b1 ≠ w.heap.size + 1 := by have := out.lt; omega
  replace out := out.keep hb
  replace src := src.keep hb
  replace ro := ro.keep hb
  replace bw := bTr bw hb
  clear hb hb1
  have f5 := out.froz 5
  have k5 : w2.cell? ⟨w.heap.size + 1 + 1, 5, none⟩ = some (.slice none 0 0) := out.at rfl
  have d6 := src.c6
  obtain ⟨W2, hW2⟩ : ∃ W, W = w2.setCell ⟨w.heap.size + 1 + 1, 5, none⟩ (.slice (some ⟨b1, 0, none⟩) l1 l1) := ⟨_, rfl⟩
  have HW2 := hide hW2
  replace out : RowIs W2 (w.heap.size + 1 + 1) #[.int .i64 v.k, .int .i64 v.a.x, .int .i64 v.a.n, .string v.a.t, .string v.a.y, .slice (some ⟨b1, 0, none⟩) l1 l1, .slice none 0 0] 35 := by
    rw [hW2]; exact out.set 5 _
  replace ro : RowIs W2 (w.heap.size + 1) #[.int .i64 0, .int .i64 0, .int .i64 0, .string ⟨#[]⟩, .string ⟨#[]⟩, .slice none 0 0, .slice none 0 0] 35 := by rw [hW2]; exact ro.setOther _ n2
  replace hrow1 : AtomRow W2 b1 0 v.items := by rw [hW2]; exact hrow1.setOther _ nb1
  replace bw : Below w.heap.size w W2 := by rw [hW2]; exact bw.setCell (by simp; omega) _
  clear hW2 src
  go_wp2_with fail
  rw [← unhide HW2]
  clear f5 k5 d6 HW2
  refine (unhide q3 _ ((unhide HS2).keep bw)).mono ?_
  rintro e w3 ⟨b2, rfl, hb2, hrow2, hb⟩
  have gb2 : w.heap.size ≤ b2 := by have := out.lt; omega
  have nb2 : b2 ≠ w.heap.size + 1 + 1 := by have := out.lt; omega
  have mb2 : b2 ≠ w.heap.size + 1 := by have := out.lt; omega
  replace out := out.keep hb
  replace ro := ro.keep hb
  replace bw := bTr bw hb
  replace hrow1 := hrow1.keep hb
  clear hb hb2 q2 q3
  have f6 := out.froz 6
  have k0 : w3.cell? ⟨w.heap.size + 1 + 1, 0, none⟩ = some (.int .i64 v.k) := out.at rfl
  have k1 : w3.cell? ⟨w.heap.size + 1 + 1, 1, none⟩ = some (.int .i64 v.a.x) := out.at rfl
  have k2 : w3.cell? ⟨w.heap.size + 1 + 1, 2, none⟩ = some (.int .i64 v.a.n) := out.at rfl
  have k3 : w3.cell? ⟨w.heap.size + 1 + 1, 3, none⟩ = some (.string v.a.t) := out.at rfl
  have k4 : w3.cell? ⟨w.heap.size + 1 + 1, 4, none⟩ = some (.string v.a.y) := out.at rfl
  have k5 : w3.cell? ⟨w.heap.size + 1 + 1, 5, none⟩ = some (.slice (some ⟨b1, 0, none⟩) l1 l1) := out.at rfl
  have k6 : w3.cell? ⟨w.heap.size + 1 + 1, 6, none⟩ = some (.slice none 0 0) := out.at rfl
  have g0 := ro.froz 0
  have g1 := ro.froz 1
  have g2 := ro.froz 2
  have g3 := ro.froz 3
  have g4 := ro.froz 4
  have g5 := ro.froz 5
  have g6 := ro.froz 6
  have j0 : w3.cell? ⟨w.heap.size + 1, 0, none⟩ = some (.int .i64 0) := ro.at rfl
  have j1 : w3.cell? ⟨w.heap.size + 1, 1, none⟩ = some (.int .i64 0) := ro.at rfl
  have j2 : w3.cell? ⟨w.heap.size + 1, 2, none⟩ = some (.int .i64 0) := ro.at rfl
  have j3 : w3.cell? ⟨w.heap.size + 1, 3, none⟩ = some (.string ⟨#[]⟩) := ro.at rfl
  have j4 : w3.cell? ⟨w.heap.size + 1, 4, none⟩ = some (.string ⟨#[]⟩) := ro.at rfl
  have j5 : w3.cell? ⟨w.heap.size + 1, 5, none⟩ = some (.slice none 0 0) := ro.at rfl
  have j6 : w3.cell? ⟨w.heap.size + 1, 6, none⟩ = some (.slice none 0 0) := ro.at rfl
  clear out ro
  go_wp2_with fail
  refine bodyPost_ret (v := .agg #[.int .i64 v.k, .int .i64 v.a.x, .int .i64 v.a.n, .string v.a.t, .string v.a.y, .slice (some ⟨b1, 0, none⟩) l1 l1, .slice (some ⟨b2, 0, none⟩) l2 l2]) (by simp [results, Tryz.results17, go_sem, j0, j1, j2, j3, j4, j5, j6]) rfl ⟨b1, b2, rfl, gb1, gb2, ?_, ?_, ?_⟩
  · exact (((((((hrow1.setOther _ nb1).setOther _ mb1).setOther _ mb1).setOther _ mb1).setOther _ mb1).setOther _ mb1).setOther _ mb1).setOther _ mb1
  · exact (((((((hrow2.setOther _ nb2).setOther _ mb2).setOther _ mb2).setOther _ mb2).setOther _ mb2).setOther _ mb2).setOther _ mb2).setOther _ mb2
  · exact (((((((bw.setCell (by simp; omega) _).setCell (by simp) _).setCell (by simp) _).setCell (by simp) _).setCell (by simp) _).setCell (by simp) _).setCell (by simp) _).setCell (by simp) _

set_option maxHeartbeats 4000000 in
theorem szTuple_any (t : TupT) (ht : t.Ok) (a1 a2 : Option Addr) (l1 c1 l2 c2 : Nat) (left : Int) (w : World) (h0 : 0 ≤ left) (h1 : left ≤ 1048576) (hl1 : l1 ≤ maxLen) (hl2 : l2 ≤ maxLen)
    (hs1 : SlA w a1 l1 t.g.items) (hs2 : SlS w a2 l2 t.g.names) :
    Calls Tryz.prog 5 #[tAg t a1 l1 c1 a2 l2 c2, .int .i64 left] w
      fun e w' => (∃ m : Int, -1 ≤ m ∧ m ≤ left ∧ (0 ≤ m → (l1 : Int) ≤ left ∧ (l2 : Int) ≤ left) ∧ e = .returned (.int .i64 m)) ∧ Below w.heap.size w w' := by
  have y_ty := ht.h_ty
  have y_id := ht.h_id
  have y_rel := ht.h_rel
  have y_sty := ht.h_sty
  have y_sid := ht.h_sid
  have y_srel := ht.h_srel
  have y_cav := ht.h_cav
  unfold maxLen at y_ty y_id y_rel y_sty y_sid y_srel y_cav
  have qv := hide (fun q w h0 h1 hs1 hs2 => szValue_any t.g ht.g a1 a2 l1 c1 l2 c2 q w h0 h1 hl1 hl2 hs1 hs2)
  have HS1 := hide hs1
  have HS2 := hide hs2
  have B0 := hide (bAl (Below.refl w.heap.size w) (.cells #[.string t.ty, .string t.id, .string t.rel, .string t.sty, .string t.sid, .string t.srel, .string t.cav, .int .i64 t.g.k, .int .i64 t.g.a.x, .int .i64 t.g.a.n, .string t.g.a.t, .string t.g.a.y, .slice a1 l1 c1, .slice a2 l2 c2] 29))
  clear hs1 hs2 ht hl1 hl2
  by_cases g0 : left - t.ty.size < 0
  · go_enter Tryz.func5, Tryz.ntmps5
    go_wp2_with fail
    go_ret
    exact ⟨⟨-1, by omega, by omega, by omega, rfl⟩, unhide B0⟩
  by_cases g1 : left - t.ty.size - t.id.size < 0
  · go_enter Tryz.func5, Tryz.ntmps5
    go_wp2_with fail
    go_ret
    exact ⟨⟨-1, by omega, by omega, by omega, rfl⟩, unhide B0⟩
  by_cases g2 : left - t.ty.size - t.id.size - t.rel.size < 0
  · go_enter Tryz.func5, Tryz.ntmps5
    go_wp2_with fail
    go_ret
    exact ⟨⟨-1, by omega, by omega, by omega, rfl⟩, unhide B0⟩
  by_cases g3 : left - t.ty.size - t.id.size - t.rel.size - t.sty.size < 0
  · go_enter Tryz.func5, Tryz.ntmps5
    go_wp2_with fail
    go_ret
    exact ⟨⟨-1, by omega, by omega, by omega, rfl⟩, unhide B0⟩
  by_cases g4 : left - t.ty.size - t.id.size - t.rel.size - t.sty.size - t.sid.size < 0
  · go_enter Tryz.func5, Tryz.ntmps5
    go_wp2_with fail
    go_ret
    exact ⟨⟨-1, by omega, by omega, by omega, rfl⟩, unhide B0⟩
  by_cases g5 : left - t.ty.size - t.id.size - t.rel.size - t.sty.size - t.sid.size - t.srel.size < 0
  · go_enter Tryz.func5, Tryz.ntmps5
    go_wp2_with fail
    go_ret
    exact ⟨⟨-1, by omega, by omega, by omega, rfl⟩, unhide B0⟩
  by_cases g6 : left - t.ty.size - t.id.size - t.rel.size - t.sty.size - t.sid.size - t.srel.size - t.cav.size < 0
  · go_enter Tryz.func5, Tryz.ntmps5
    go_wp2_with fail
    go_ret
    exact ⟨⟨-1, by omega, by omega, by omega, rfl⟩, unhide B0⟩
  go_enter Tryz.func5, Tryz.ntmps5
  go_wp2_with fail
  refine (unhide qv _ _ (by omega) (by omega) ((unhide HS1).keep (unhide B0)) ((unhide HS2).keep (unhide B0))).mono ?_
  rintro e w1 ⟨⟨m, m0, m1, m2, rfl⟩, hb⟩
  have B1 := hide (bTr (unhide B0) hb)
  clear hb
  by_cases gm : m < 0
  · go_wp2_with fail
    go_ret
    exact ⟨⟨-1, by omega, by omega, by omega, rfl⟩, unhide B1⟩
  go_wp2_with fail
  go_ret
  exact ⟨⟨m, by omega, by omega, by omega, rfl⟩, unhide B1⟩

set_option maxHeartbeats 4000000 in
theorem toTuple_any (t : TupT) (a1 a2 : Option Addr) (l1 c1 l2 c2 : Nat) (w : World) (hl1 : l1 ≤ 1048576) (hl2 : l2 ≤ 1048576)
    (hs1 : SlA w a1 l1 t.g.items) (hs2 : SlS w a2 l2 t.g.names) :
    Calls Tryz.prog 7 #[tAg t a1 l1 c1 a2 l2 c2] w
      fun e w' => ∃ b1 b2, e = .returned (tAg t (some ⟨b1, 0, none⟩) l1 l1 (some ⟨b2, 0, none⟩) l2 l2) ∧ AtomRow w' b1 0 t.g.items ∧ StrRow w' b2 0 t.g.names ∧ Below w.heap.size w w' := by
  have q := hide (fun w h1 h2 => toValue_new t.g a1 a2 l1 c1 l2 c2 w hl1 hl2 h1 h2)
  have HS1 := hide hs1
  have HS2 := hide hs2
  clear hs1 hs2 hl1 hl2
  obtain ⟨W0, hW0⟩ : ∃ W, W = ((w.alloc (.cells #[.string t.ty, .string t.id, .string t.rel, .string t.sty, .string t.sid, .string t.srel, .string t.cav, .int .i64 t.g.k, .int .i64 t.g.a.x, .int .i64 t.g.a.n, .string t.g.a.t, .string t.g.a.y, .slice a1 l1 c1, .slice a2 l2 c2] 29)).alloc (.cells #[.string ⟨#[]⟩, .string ⟨#[]⟩, .string ⟨#[]⟩, .string ⟨#[]⟩, .string ⟨#[]⟩, .string ⟨#[]⟩, .string ⟨#[]⟩, .int .i64 0, .int .i64 0, .int .i64 0, .string ⟨#[]⟩, .string ⟨#[]⟩, .slice none 0 0, .slice none 0 0] 37)).alloc (.cells #[.string t.ty, .string t.id, .string t.rel, .string t.sty, .string t.sid, .string t.srel, .string t.cav, .int .i64 0, .int .i64 0, .int .i64 0, .string ⟨#[]⟩, .string ⟨#[]⟩, .slice none 0 0, .slice none 0 0] 37) := ⟨_, rfl⟩
  have z0 : W0.heap.size = w.heap.size + 1 + 1 + 1 := by rw [hW0]; simp
  have b0 : Below w.heap.size w W0 := by rw [hW0]; exact bAl (bAl (bAl (Below.refl _ _) _) _) _
  have ro : RowIs W0 (w.heap.size + 1) #[.string ⟨#[]⟩, .string ⟨#[]⟩, .string ⟨#[]⟩, .string ⟨#[]⟩, .string ⟨#[]⟩, .string ⟨#[]⟩, .string ⟨#[]⟩, .int .i64 0, .int .i64 0, .int .i64 0, .string ⟨#[]⟩, .string ⟨#[]⟩, .slice none 0 0, .slice none 0 0] 37 := by
    rw [hW0]
    have := (RowIs.new (w.alloc (.cells #[.string t.ty, .string t.id, .string t.rel, .string t.sty, .string t.sid, .string t.srel, .string t.cav, .int .i64 t.g.k, .int .i64 t.g.a.x, .int .i64 t.g.a.n, .string t.g.a.t, .string t.g.a.y, .slice a1 l1 c1, .slice a2 l2 c2] 29)) #[.string ⟨#[]⟩, .string ⟨#[]⟩, .string ⟨#[]⟩, .string ⟨#[]⟩, .string ⟨#[]⟩, .string ⟨#[]⟩, .string ⟨#[]⟩, .int .i64 0, .int .i64 0, .int .i64 0, .string ⟨#[]⟩, .string ⟨#[]⟩, .slice none 0 0, .slice none 0 0] 37).keep (bAl (Below.refl _ _) (.cells #[.string t.ty, .string t.id, .string t.rel, .string t.sty, .string t.sid, .string t.srel, .string t.cav, .int .i64 0, .int .i64 0, .int .i64 0, .string ⟨#[]⟩, .string ⟨#[]⟩, .slice none 0 0, .slice none 0 0] 37))
    simpa using this
  have out : RowIs W0 (w.heap.size + 1 + 1) #[.string t.ty, .string t.id, .string t.rel, .string t.sty, .string t.sid, .string t.srel, .string t.cav, .int .i64 0, .int .i64 0, .int .i64 0, .string ⟨#[]⟩, .string ⟨#[]⟩, .slice none 0 0, .slice none 0 0] 37 := by
    rw [hW0]
    have := RowIs.new ((w.alloc (.cells #[.string t.ty, .string t.id, .string t.rel, .string t.sty, .string t.sid, .string t.srel, .string t.cav, .int .i64 t.g.k, .int .i64 t.g.a.x, .int .i64 t.g.a.n, .string t.g.a.t, .string t.g.a.y, .slice a1 l1 c1, .slice a2 l2 c2] 29)).alloc (.cells #[.string ⟨#[]⟩, .string ⟨#[]⟩, .string ⟨#[]⟩, .string ⟨#[]⟩, .string ⟨#[]⟩, .string ⟨#[]⟩, .string ⟨#[]⟩, .int .i64 0, .int .i64 0, .int .i64 0, .string ⟨#[]⟩, .string ⟨#[]⟩, .slice none 0 0, .slice none 0 0] 37)) #[.string t.ty, .string t.id, .string t.rel, .string t.sty, .string t.sid, .string t.srel, .string t.cav, .int .i64 0, .int .i64 0, .int .i64 0, .string ⟨#[]⟩, .string ⟨#[]⟩, .slice none 0 0, .slice none 0 0] 37
    simpa using this
  have HW := hide hW0
  clear hW0
  go_enter Tryz.func7, Tryz.ntmps7
  go_wp2_with fail
  rw [← unhide HW]
  clear HW
  refine (unhide q _ ((unhide HS1).keep b0) ((unhide HS2).keep b0)).mono ?_
  rintro e w1 ⟨b1, b2, rfl, gb1, gb2, r1, r2, hb⟩
  have nb1 : b1 ≠ w.heap.size + 1 + 1 := by omega
  have mb1 : b1 ≠ w.heap.size + 1 := by omega
  have nb2 : b2 ≠ w.heap.size + 1 + 1 := by omega
  have mb2 : b2 ≠ w.heap.size + 1 := by omega
  have n2 : w.heap.size + 1 ≠ w.heap.size + 1 + 1 := by omega
  replace out := out.keep hb
  replace ro := ro.keep hb
  have bw := bTr b0 hb
  clear hb b0 gb1 gb2 q
  have k0 : w1.cell? ⟨w.heap.size + 1 + 1, 0, none⟩ = some (.string t.ty) := out.at rfl
  have k1 : w1.cell? ⟨w.heap.size + 1 + 1, 1, none⟩ = some (.string t.id) := out.at rfl
  have k2 : w1.cell? ⟨w.heap.size + 1 + 1, 2, none⟩ = some (.string t.rel) := out.at rfl
  have k3 : w1.cell? ⟨w.heap.size + 1 + 1, 3, none⟩ = some (.string t.sty) := out.at rfl
  have k4 : w1.cell? ⟨w.heap.size + 1 + 1, 4, none⟩ = some (.string t.sid) := out.at rfl
  have k5 : w1.cell? ⟨w.heap.size + 1 + 1, 5, none⟩ = some (.string t.srel) := out.at rfl
  have k6 : w1.cell? ⟨w.heap.size + 1 + 1, 6, none⟩ = some (.string t.cav) := out.at rfl
  have k7 : w1.cell? ⟨w.heap.size + 1 + 1, 7, none⟩ = some (.int .i64 0) := out.at rfl
  have k8 : w1.cell? ⟨w.heap.size + 1 + 1, 8, none⟩ = some (.int .i64 0) := out.at rfl
  have k9 : w1.cell? ⟨w.heap.size + 1 + 1, 9, none⟩ = some (.int .i64 0) := out.at rfl
  have k10 : w1.cell? ⟨w.heap.size + 1 + 1, 10, none⟩ = some (.string ⟨#[]⟩) := out.at rfl
  have k11 : w1.cell? ⟨w.heap.size + 1 + 1, 11, none⟩ = some (.string ⟨#[]⟩) := out.at rfl
  have k12 : w1.cell? ⟨w.heap.size + 1 + 1, 12, none⟩ = some (.slice none 0 0) := out.at rfl
  have k13 : w1.cell? ⟨w.heap.size + 1 + 1, 13, none⟩ = some (.slice none 0 0) := out.at rfl
  have f7 := out.froz 7
  have f8 := out.froz 8
  have f9 := out.froz 9
  have f10 := out.froz 10
  have f11 := out.froz 11
  have f12 := out.froz 12
  have f13 := out.froz 13
  have g0 := ro.froz 0
  have j0 : w1.cell? ⟨w.heap.size + 1, 0, none⟩ = some (.string ⟨#[]⟩) := ro.at rfl
  have g1 := ro.froz 1
  have j1 : w1.cell? ⟨w.heap.size + 1, 1, none⟩ = some (.string ⟨#[]⟩) := ro.at rfl
  have g2 := ro.froz 2
  have j2 : w1.cell? ⟨w.heap.size + 1, 2, none⟩ = some (.string ⟨#[]⟩) := ro.at rfl
  have g3 := ro.froz 3
  have j3 : w1.cell? ⟨w.heap.size + 1, 3, none⟩ = some (.string ⟨#[]⟩) := ro.at rfl
  have g4 := ro.froz 4
  have j4 : w1.cell? ⟨w.heap.size + 1, 4, none⟩ = some (.string ⟨#[]⟩) := ro.at rfl
  have g5 := ro.froz 5
  have j5 : w1.cell? ⟨w.heap.size + 1, 5, none⟩ = some (.string ⟨#[]⟩) := ro.at rfl
  have g6 := ro.froz 6
  have j6 : w1.cell? ⟨w.heap.size + 1, 6, none⟩ = some (.string ⟨#[]⟩) := ro.at rfl
  have g7 := ro.froz 7
  have j7 : w1.cell? ⟨w.heap.size + 1, 7, none⟩ = some (.int .i64 0) := ro.at rfl
  have g8 := ro.froz 8
  have j8 : w1.cell? ⟨w.heap.size + 1, 8, none⟩ = some (.int .i64 0) := ro.at rfl
  have g9 := ro.froz 9
  have j9 : w1.cell? ⟨w.heap.size + 1, 9, none⟩ = some (.int .i64 0) := ro.at rfl
  have g10 := ro.froz 10
  have j10 : w1.cell? ⟨w.heap.size + 1, 10, none⟩ = some (.string ⟨#[]⟩) := ro.at rfl
  have g11 := ro.froz 11
  have j11 : w1.cell? ⟨w.heap.size + 1, 11, none⟩ = some (.string ⟨#[]⟩) := ro.at rfl
  have g12 := ro.froz 12
  have j12 : w1.cell? ⟨w.heap.size + 1, 12, none⟩ = some (.slice none 0 0) := ro.at rfl
  have g13 := ro.froz 13
  have j13 : w1.cell? ⟨w.heap.size + 1, 13, none⟩ = some (.slice none 0 0) := ro.at rfl
  clear out ro
  go_wp2_with fail
  refine bodyPost_ret (v := tAg t (some ⟨b1, 0, none⟩) l1 l1 (some ⟨b2, 0, none⟩) l2 l2) (by simp [results, Tryz.results7, go_sem, j0, j1, j2, j3, j4, j5, j6, j7, j8, j9, j10, j11, j12, j13]) rfl ⟨b1, b2, rfl, ?_, ?_, ?_⟩
  · exact (((((((((((((((((((((r1.setOther _ nb1).setOther _ nb1).setOther _ nb1).setOther _ nb1).setOther _ nb1).setOther _ nb1).setOther _ nb1).setOther _ mb1).setOther _ mb1).setOther _ mb1).setOther _ mb1).setOther _ mb1).setOther _ mb1).setOther _ mb1).setOther _ mb1).setOther _ mb1).setOther _ mb1).setOther _ mb1).setOther _ mb1).setOther _ mb1).setOther _ mb1)
  · exact (((((((((((((((((((((r2.setOther _ nb2).setOther _ nb2).setOther _ nb2).setOther _ nb2).setOther _ nb2).setOther _ nb2).setOther _ nb2).setOther _ mb2).setOther _ mb2).setOther _ mb2).setOther _ mb2).setOther _ mb2).setOther _ mb2).setOther _ mb2).setOther _ mb2).setOther _ mb2).setOther _ mb2).setOther _ mb2).setOther _ mb2).setOther _ mb2).setOther _ mb2)
  · exact (((((((((((((((((((((bw.setCell (by simp; omega) _).setCell (by simp; omega) _).setCell (by simp; omega) _).setCell (by simp; omega) _).setCell (by simp; omega) _).setCell (by simp; omega) _).setCell (by simp; omega) _).setCell (by simp) _).setCell (by simp) _).setCell (by simp) _).setCell (by simp) _).setCell (by simp) _).setCell (by simp) _).setCell (by simp) _).setCell (by simp) _).setCell (by simp) _).setCell (by simp) _).setCell (by simp) _).setCell (by simp) _).setCell (by simp) _).setCell (by simp) _)

set_option maxHeartbeats 4000000 in
theorem eqTuple_same (t : TupT) (a1 a2 b1 b2 : Option Addr) (l1 c1 l2 c2 m1 e1 m2 e2 : Nat) (w : World) (hl1 : l1 ≤ maxLen) (hl2 : l2 ≤ maxLen)
    (hs1 : SlA w a1 l1 t.g.items) (hs2 : SlS w a2 l2 t.g.names) (ht1 : SlA w b1 m1 t.g.items) (ht2 : SlS w b2 m2 t.g.names) :
    Calls Tryz.prog 9 #[tAg t a1 l1 c1 a2 l2 c2, tAg t b1 m1 e1 b2 m2 e2] w fun e w' => e = .returned (.bool true) ∧ Below w.heap.size w w' := by
  have bb := bAl (bAl (Below.refl w.heap.size w) (.cells #[.string t.ty, .string t.id, .string t.rel, .string t.sty, .string t.sid, .string t.srel, .string t.cav, .int .i64 t.g.k, .int .i64 t.g.a.x, .int .i64 t.g.a.n, .string t.g.a.t, .string t.g.a.y, .slice a1 l1 c1, .slice a2 l2 c2] 37)) (.cells #[.string t.ty, .string t.id, .string t.rel, .string t.sty, .string t.sid, .string t.srel, .string t.cav, .int .i64 t.g.k, .int .i64 t.g.a.x, .int .i64 t.g.a.n, .string t.g.a.t, .string t.g.a.y, .slice b1 m1 e1, .slice b2 m2 e2] 37)
  have q := hide (eqValue_same t.g a1 a2 b1 b2 l1 c1 l2 c2 m1 e1 m2 e2 _ hl1 hl2 (hs1.keep bb) (hs2.keep bb) (ht1.keep bb) (ht2.keep bb))
  have BB := hide bb
  clear hs1 hs2 ht1 ht2 hl1 hl2 bb
  go_enter Tryz.func9, Tryz.ntmps9
  go_wp2_with fail
  refine (unhide q).mono ?_
  rintro e w1 ⟨rfl, hb⟩
  have B1 := hide (bTr (unhide BB) hb)
  clear hb q
  go_wp2_with fail
  go_ret
  exact ⟨rfl, unhide B1⟩

section
variable {H : Type} {enc : TypeId × Value → H} {w : World} {base : Nat} {sp : Nat → Bool} {held : Bool}
theorem list14 {α : Type} {l : List α} (h : l.length = 14) : ∃ c0 c1 c2 c3 c4 c5 c6 c7 c8 c9 c10 c11 c12 c13, l = [c0, c1, c2, c3, c4, c5, c6, c7, c8, c9, c10, c11, c12, c13] := by
  match l, h with
  | [c0, c1, c2, c3, c4, c5, c6, c7, c8, c9, c10, c11, c12, c13], _ => exact ⟨c0, c1, c2, c3, c4, c5, c6, c7, c8, c9, c10, c11, c12, c13, rfl⟩
theorem list8 {α : Type} {l : List α} (h : l.length = 8) : ∃ c0 c1 c2 c3 c4 c5 c6 c7, l = [c0, c1, c2, c3, c4, c5, c6, c7] := by
  match l, h with
  | [c0, c1, c2, c3, c4, c5, c6, c7], _ => exact ⟨c0, c1, c2, c3, c4, c5, c6, c7, rfl⟩
theorem read_cells7 {c0 c1 c2 c3 c4 c5 c6 : Value} {x : DataW H × List MemPlace} {fuel : Nat} (hf0 : DataW.trod enc Tryz.prog w base sp held fuel 27 [c0, c1, c2, c3, c4, c5, c6] = some x) :
    ∃ (v : ValT) (a1 a2 : Option Addr) (l1 e1 l2 e2 : Nat), (c0 = .int .i64 v.k ∧ c1 = .int .i64 v.a.x ∧ c2 = .int .i64 v.a.n ∧ c3 = .string v.a.t ∧ c4 = .string v.a.y ∧ c5 = .slice a1 l1 e1 ∧ c6 = .slice a2 l2 e2) ∧ v.Ok ∧
      SlA w a1 l1 v.items ∧ SlS w a2 l2 v.names ∧ l1 ≤ maxLen ∧ l2 ≤ maxLen := by
  have k3 : Tryz.prog.cellsOf 3 = 1 := by kernel_rfl
  have k36 : Tryz.prog.cellsOf 23 = 4 := by kernel_rfl
  have k42 : Tryz.prog.cellsOf 24 = 1 := by kernel_rfl
  have k43 : Tryz.prog.cellsOf 25 = 1 := by kernel_rfl
  obtain ⟨xs, m, rfl, _, hlen, hx, hf⟩ := DataW.trod_struct Tryz.underlying27 hf0
  obtain ⟨x0, x1, x2, x3, rfl⟩ := list4 hx
  have h0 : DataW.trod enc Tryz.prog w base sp held m 3 [c0] = some x0 := by have := hf 0 _ rfl; simpa [k3, Value.cells] using this
  have h1 : DataW.trod enc Tryz.prog w base sp held m 23 [c1, c2, c3, c4] = some x1 := by have := hf 1 _ rfl; simpa [k36, Value.cells] using this
  have h2 : DataW.trod enc Tryz.prog w base sp held m 24 [c5] = some x2 := by have := hf 2 _ rfl; simpa [k42, Value.cells] using this
  have h3 : DataW.trod enc Tryz.prog w base sp held m 25 [c6] = some x3 := by have := hf 3 _ rfl; simpa [k43, Value.cells] using this
  obtain ⟨k, q0, _, _⟩ := DataW.trod_int Tryz.underlying3 h0
  obtain ⟨A, q1, hok⟩ := read_atom h1
  simp at q0 q1
  subst q0
  obtain ⟨rfl, rfl, rfl, rfl⟩ := q1
  have g2 : ∃ a l c, c5 = .slice a l c := by
    rcases Go.Deep.open_slice Tryz.underlying24 h2 with ⟨hcs, _⟩ | ⟨a', len', cap', _, _, _, _, hcs, _⟩
    · simp at hcs; exact ⟨_, _, _, hcs⟩
    · simp at hcs; exact ⟨_, _, _, hcs⟩
  have g3 : ∃ a l c, c6 = .slice a l c := by
    rcases Go.Deep.open_slice Tryz.underlying25 h3 with ⟨hcs, _⟩ | ⟨a', len', cap', _, _, _, _, hcs, _⟩
    · simp at hcs; exact ⟨_, _, _, hcs⟩
    · simp at hcs; exact ⟨_, _, _, hcs⟩
  obtain ⟨a1, l1, e1, rfl⟩ := g2
  obtain ⟨a2, l2, e2, rfl⟩ := g3
  obtain ⟨items, s1, o1, m1⟩ := read_atoms h2
  obtain ⟨names, s2, o2, m2⟩ := read_strings h3
  exact ⟨⟨k, A, items, names⟩, a1, a2, l1, e1, l2, e2, ⟨rfl, rfl, rfl, rfl, rfl, rfl, rfl⟩, ⟨hok, o1, o2⟩, s1, s2, m1, m2⟩
/-- A tuple that came in. -/
theorem read_tuple {r : Reach} {b0 : Nat} {v0 : Value} {d : DataW H} {p : List MemPlace} (hv : Value.okWide Tryz.prog w r b0 29 v0) (h : DataW.Trod enc Tryz.prog w base sp held 29 v0 d p) :
    ∃ (t : TupT) (a1 a2 : Option Addr) (l1 c1 l2 c2 : Nat), v0 = tAg t a1 l1 c1 a2 l2 c2 ∧ t.Ok ∧ SlA w a1 l1 t.g.items ∧ SlS w a2 l2 t.g.names ∧ l1 ≤ maxLen ∧ l2 ≤ maxLen := by
  have hc : Tryz.prog.cellsOf 29 = 14 := by kernel_rfl
  have k9 : Tryz.prog.cellsOf 9 = 1 := by kernel_rfl
  have kv : Tryz.prog.cellsOf 27 = 7 := by kernel_rfl
  obtain ⟨cs, rfl, hsz⟩ := okWide_struct Tryz.underlying29 hv
  obtain ⟨fuel, hf0⟩ := h
  obtain ⟨xs, m, rfl, _, hlen, hx, hf⟩ := DataW.trod_struct Tryz.underlying29 hf0
  obtain ⟨l⟩ := cs
  obtain ⟨c0, c1, c2, c3, c4, c5, c6, c7, c8, c9, c10, c11, c12, c13, rfl⟩ := list14 (show l.length = 14 from (by simpa using hsz.trans hc))
  obtain ⟨x0, x1, x2, x3, x4, x5, x6, x7, rfl⟩ := list8 hx
  have h0 : DataW.trod enc Tryz.prog w base sp held m 9 [c0] = some x0 := by have := hf 0 _ rfl; simpa [k9, Value.cells] using this
  have h1 : DataW.trod enc Tryz.prog w base sp held m 9 [c1] = some x1 := by have := hf 1 _ rfl; simpa [k9, Value.cells] using this
  have h2 : DataW.trod enc Tryz.prog w base sp held m 9 [c2] = some x2 := by have := hf 2 _ rfl; simpa [k9, Value.cells] using this
  have h3 : DataW.trod enc Tryz.prog w base sp held m 9 [c3] = some x3 := by have := hf 3 _ rfl; simpa [k9, Value.cells] using this
  have h4 : DataW.trod enc Tryz.prog w base sp held m 9 [c4] = some x4 := by have := hf 4 _ rfl; simpa [k9, Value.cells] using this
  have h5 : DataW.trod enc Tryz.prog w base sp held m 9 [c5] = some x5 := by have := hf 5 _ rfl; simpa [k9, Value.cells] using this
  have h6 : DataW.trod enc Tryz.prog w base sp held m 9 [c6] = some x6 := by have := hf 6 _ rfl; simpa [k9, Value.cells] using this
  have h7 : DataW.trod enc Tryz.prog w base sp held m 27 [c7, c8, c9, c10, c11, c12, c13] = some x7 := by have := hf 7 _ rfl; simpa [kv, Value.cells] using this
  obtain ⟨s0, q0, _, w0⟩ := DataW.trod_string Tryz.underlying9 h0
  obtain ⟨s1, q1, _, w1⟩ := DataW.trod_string Tryz.underlying9 h1
  obtain ⟨s2, q2, _, w2⟩ := DataW.trod_string Tryz.underlying9 h2
  obtain ⟨s3, q3, _, w3⟩ := DataW.trod_string Tryz.underlying9 h3
  obtain ⟨s4, q4, _, w4⟩ := DataW.trod_string Tryz.underlying9 h4
  obtain ⟨s5, q5, _, w5⟩ := DataW.trod_string Tryz.underlying9 h5
  obtain ⟨s6, q6, _, w6⟩ := DataW.trod_string Tryz.underlying9 h6
  simp at q0 q1 q2 q3 q4 q5 q6
  subst q0 q1 q2 q3 q4 q5 q6
  obtain ⟨v, a1, a2, l1, e1, l2, e2, hv2, hok, g1, g2, g3, g4⟩ := read_cells7 h7
  obtain ⟨rfl, rfl, rfl, rfl, rfl, rfl, rfl⟩ := hv2
  exact ⟨⟨s0, s1, s2, s3, s4, s5, s6, v⟩, a1, a2, l1, e1, l2, e2, rfl, ⟨w0, w1, w2, w3, w4, w5, w6, hok⟩, g1, g2, g3, g4⟩
end
end Go.Proofs.YticidjceljjfnaaGreatDoor.V
