/- A caveat: sized, copied, held against itself, read. -/
import Derived.Test.YtmkgehcfdcoliaaGreatRTer
namespace Go.Proofs.YtmkgehcfdcoliaaGreat.V
open Go.ChangeShapes Go.WideShapes Go.RowKit

theorem ParamRow.other {w w' : World} {b off : Nat} {l : List ParamT} (h : ParamRow w b off l) (hz : b < w'.heap.size) (hc : ∀ o, w'.cell? ⟨b, o, none⟩ = w.cell? ⟨b, o, none⟩) : ParamRow w' b off l :=
  ⟨hz, fun i hi => (hc _).trans (h.c0 i hi), fun i hi => (hc _).trans (h.c1 i hi)⟩
theorem CavTermRow.other {w w' : World} {b off : Nat} {l : List CavTermT} (h : CavTermRow w b off l) (hz : b < w'.heap.size) (hc : ∀ o, w'.cell? ⟨b, o, none⟩ = w.cell? ⟨b, o, none⟩) : CavTermRow w' b off l :=
  ⟨hz, fun i hi => (hc _).trans (h.c0 i hi), fun i hi => (hc _).trans (h.c1 i hi), fun i hi => (hc _).trans (h.c2 i hi), fun i hi => (hc _).trans (h.c3 i hi), fun i hi => (hc _).trans (h.c4 i hi), fun i hi => (hc _).trans (h.c5 i hi), fun i hi => (hc _).trans (h.c6 i hi)⟩
theorem ParamRow.setOther {w : World} {b off : Nat} {l : List ParamT} (hr : ParamRow w b off l) {b' o' : Nat} (v : Value) (h : b ≠ b') : ParamRow (w.setCell ⟨b', o', none⟩ v) b off l :=
  hr.other (by simpa [World.setCell] using hr.z) (fun _ => cell_setOther v h)
theorem CavTermRow.setOther {w : World} {b off : Nat} {l : List CavTermT} (hr : CavTermRow w b off l) {b' o' : Nat} (v : Value) (h : b ≠ b') : CavTermRow (w.setCell ⟨b', o', none⟩ v) b off l :=
  hr.other (by simpa [World.setCell] using hr.z) (fun _ => cell_setOther v h)

set_option maxHeartbeats 1000000 in
theorem szCaveat_any (n : ByteArray) (l : List ParamT) (ts : List CavTermT) (a1 a2 : Option Addr) (l1 c1 l2 c2 : Nat) (left : Int) (w : World) (h0 : 0 ≤ left) (h1 : left ≤ 1048576) (hn : n.size ≤ maxLen) (hl1 : l1 ≤ maxLen) (hl2 : l2 ≤ maxLen)
    (hs1 : SlParam w a1 l1 l) (hs2 : SlCavTerm w a2 l2 ts) (hok : ∀ q ∈ l, ParamT.Ok q) (hot : ∀ q ∈ ts, CavTermT.Ok q) :
    Calls Tryz.prog 4 #[.agg #[.string n, .slice a1 l1 c1, .slice a2 l2 c2], .int .i64 left] w
      fun e w' => (∃ m : Int, -1 ≤ m ∧ m ≤ left ∧ (0 ≤ m → (l1 : Int) ≤ left ∧ (l2 : Int) ≤ left) ∧ e = .returned (.int .i64 m)) ∧ Below w.heap.size w w' := by
  have q2 := hide (fun q w h0 h1 hs => szParamS_any a1 l1 c1 l q w h0 h1 hl1 hs hok)
  have q3 := hide (fun q w h0 h1 hs => szCavTermS_any a2 l2 c2 ts q w h0 h1 hl2 hs hot)
  have HS1 := hide hs1
  have HS2 := hide hs2
  clear hs1 hs2 hl1 hl2 hok hot
  unfold maxLen at hn
  have R0 := hide (RowIs.new w #[.string n, .slice a1 l1 c1, .slice a2 l2 c2] 25)
  by_cases g0 : left < (n.size : Int)
  · clear R0
    go_enter Tryz.func4, Tryz.ntmps4
    go_wp2_with fail
    go_ret
    exact ⟨⟨-1, by omega, by omega, by omega, rfl⟩, bAl (Below.refl _ _) _⟩
  have d0 : decide (left - (n.size : Int) < 0) = false := by simp; omega
  go_enter Tryz.func4, Tryz.ntmps4
  go_wp2_with fail
  refine (unhide q2 _ _ (by omega) (by omega) ((unhide HS1).keep (bAl (Below.refl _ _) _))).mono ?_
  rintro e w1 ⟨⟨m1, ha1, ha2, ha3, rfl⟩, hb1⟩
  have bw := bTr (bAl (Below.refl _ _) _) hb1
  have qv := (unhide R0).keep hb1
  have d2 := qv.at (o := 2) (v := .slice a2 l2 c2) rfl
  clear hb1 R0 qv
  by_cases g1 : m1 < 0
  · go_wp2_with fail
    go_ret
    exact ⟨⟨-1, by omega, by omega, by omega, rfl⟩, bw⟩
  go_wp2_with fail
  refine (unhide q3 _ _ (by omega) (by omega) ((unhide HS2).keep bw)).mono ?_
  rintro e w2 ⟨⟨m2, hb1, hb2, hb3, rfl⟩, hb4⟩
  replace bw := bTr bw hb4
  clear d2 hb4
  by_cases g2 : m2 < 0
  · go_wp2_with fail
    go_ret
    exact ⟨⟨-1, by omega, by omega, by omega, rfl⟩, bw⟩
  go_wp2_with fail
  go_ret
  exact ⟨⟨m2, by omega, by omega, by omega, rfl⟩, bw⟩

set_option maxHeartbeats 1000000 in
theorem toCaveat_any (n : ByteArray) (l : List ParamT) (ts : List CavTermT) (a1 a2 : Option Addr) (l1 c1 l2 c2 : Nat) (w : World) (hl1 : l1 ≤ 1048576) (hl2 : l2 ≤ 1048576)
    (hs1 : SlParam w a1 l1 l) (hs2 : SlCavTerm w a2 l2 ts) :
    Calls Tryz.prog 7 #[.agg #[.string n, .slice a1 l1 c1, .slice a2 l2 c2]] w
      fun e w' => ∃ b1 b2, e = .returned (.agg #[.string n, .slice (some ⟨b1, 0, none⟩) l1 l1, .slice (some ⟨b2, 0, none⟩) l2 l2]) ∧ ParamRow w' b1 0 l ∧ CavTermRow w' b2 0 ts ∧ Below w.heap.size w w' := by
  have q2 : Hid (∀ w, SlParam w a1 l1 l → Calls Tryz.prog 20 #[.slice a1 l1 c1] w fun e w' => ∃ b, e = .returned (.slice (some ⟨b, 0, none⟩) l1 l1) ∧ w.heap.size ≤ b ∧ ParamRow w' b 0 l ∧ Below w.heap.size w w') :=
    hide (fun w hs => (toParamS_own a1 l1 c1 l w hl1 hs).mono fun _ _ ⟨h1, ⟨_, _, _, h2⟩, h3⟩ => ⟨_, h1, Nat.le_refl _, h2, h3⟩)
  have q3 : Hid (∀ w, SlCavTerm w a2 l2 ts → Calls Tryz.prog 21 #[.slice a2 l2 c2] w fun e w' => ∃ b, e = .returned (.slice (some ⟨b, 0, none⟩) l2 l2) ∧ w.heap.size ≤ b ∧ CavTermRow w' b 0 ts ∧ Below w.heap.size w w') :=
    hide (fun w hs => (toCavTermS_own a2 l2 c2 ts w hl2 hs).mono fun _ _ ⟨h1, ⟨_, _, _, h2⟩, h3⟩ => ⟨_, h1, Nat.le_refl _, h2, h3⟩)
  have HS1 := hide hs1
  have HS2 := hide hs2
  clear hs1 hs2 hl1 hl2
  go_enter Tryz.func7, Tryz.ntmps7
  go_wp2_with fail
  refine (unhide q2 _ ((unhide HS1).keep (bAl (bAl (bAl (Below.refl _ _) _) _) _))).mono ?_
  rintro e w2 ⟨b1, rfl, hb1, hrow1, hb⟩
  have src := ((RowIs.new w #[.string n, .slice a1 l1 c1, .slice a2 l2 c2] 25).keep (bAl (bAl (Below.refl _ _) _) _)).keep hb
  have bw := bTr (bAl (bAl (bAl (Below.refl _ _) _) _) _) hb
  have ro := ((RowIs.new (w.alloc _) _ _).keep (bAl (Below.refl _ _) _)).keep hb
  have out := (RowIs.new ((w.alloc _).alloc _) _ _).keep hb
  simp only [World.size_alloc] at ro out hb1
  have n2 : w.heap.size + 1 ≠ w.heap.size + 1 + 1 := by omega
  have n1 : w.heap.size ≠ w.heap.size + 1 + 1 := by omega
  have nb1 : b1 ≠ w.heap.size + 1 + 1 := by omega
  have mb1 : b1 ≠ w.heap.size + 1 := by omega
  clear hb hb1
  have f1 := out.froz 1
  have k1 : w2.cell? ⟨w.heap.size + 1 + 1, 1, none⟩ = some (.slice none 0 0) := out.at rfl
  have d2 := src.at (o := 2) (v := .slice a2 l2 c2) rfl
  obtain ⟨W2, hW2⟩ : ∃ W, W = w2.setCell ⟨w.heap.size + 1 + 1, 1, none⟩ (.slice (some ⟨b1, 0, none⟩) l1 l1) := ⟨_, rfl⟩
  have HW2 := hide hW2
  replace out : RowIs W2 (w.heap.size + 1 + 1) #[.string n, .slice (some ⟨b1, 0, none⟩) l1 l1, .slice none 0 0] 38 := by rw [hW2]; exact out.set 1 _
  replace ro : RowIs W2 (w.heap.size + 1) #[.string ⟨#[]⟩, .slice none 0 0, .slice none 0 0] 38 := by rw [hW2]; exact ro.setOther _ n2
  replace hrow1 : ParamRow W2 b1 0 l := by rw [hW2]; exact hrow1.setOther _ nb1
  replace bw : Below w.heap.size w W2 := by rw [hW2]; exact bw.setCell (by simp; omega) _
  clear hW2 src
  go_wp2_with fail
  rw [← unhide HW2]
  clear f1 k1 d2 HW2
  refine (unhide q3 _ ((unhide HS2).keep bw)).mono ?_
  rintro e w3 ⟨b2, rfl, hb2, hrow2, hb⟩
  have nb2 : b2 ≠ w.heap.size + 1 + 1 := by have := out.lt; omega
  have mb2 : b2 ≠ w.heap.size + 1 := by have := out.lt; omega
  replace out := out.keep hb
  replace ro := ro.keep hb
  replace bw := bTr bw hb
  replace hrow1 := hrow1.keep hb
  clear hb hb2 q2 q3
  have f2 := out.froz 2
  have k0 : w3.cell? ⟨w.heap.size + 1 + 1, 0, none⟩ = some (.string n) := out.at rfl
  have k1 : w3.cell? ⟨w.heap.size + 1 + 1, 1, none⟩ = some (.slice (some ⟨b1, 0, none⟩) l1 l1) := out.at rfl
  have k2 : w3.cell? ⟨w.heap.size + 1 + 1, 2, none⟩ = some (.slice none 0 0) := out.at rfl
  have g0 := ro.froz 0
  have g1 := ro.froz 1
  have g2 := ro.froz 2
  have j0 : w3.cell? ⟨w.heap.size + 1, 0, none⟩ = some (.string ⟨#[]⟩) := ro.at rfl
  have j1 : w3.cell? ⟨w.heap.size + 1, 1, none⟩ = some (.slice none 0 0) := ro.at rfl
  have j2 : w3.cell? ⟨w.heap.size + 1, 2, none⟩ = some (.slice none 0 0) := ro.at rfl
  clear out ro
  go_wp2_with fail
  refine bodyPost_ret (v := .agg #[.string n, .slice (some ⟨b1, 0, none⟩) l1 l1, .slice (some ⟨b2, 0, none⟩) l2 l2]) (by simp [results, Tryz.results7, go_sem, j0, j1, j2]) rfl ⟨b1, b2, rfl, ?_, ?_, ?_⟩
  · exact (((hrow1.setOther _ nb1).setOther _ mb1).setOther _ mb1).setOther _ mb1
  · exact (((hrow2.setOther _ nb2).setOther _ mb2).setOther _ mb2).setOther _ mb2
  · exact (((bw.setCell (by simp; omega) _).setCell (by simp) _).setCell (by simp) _).setCell (by simp) _

set_option maxHeartbeats 1000000 in
theorem eqCaveat_same (n : ByteArray) (l : List ParamT) (ts : List CavTermT) (a1 a2 b1 b2 : Option Addr) (l1 c1 l2 c2 m1 e1 m2 e2 : Nat) (w : World) (hl1 : l1 ≤ maxLen) (hl2 : l2 ≤ maxLen)
    (hs1 : SlParam w a1 l1 l) (hs2 : SlCavTerm w a2 l2 ts) (ht1 : SlParam w b1 m1 l) (ht2 : SlCavTerm w b2 m2 ts) :
    Calls Tryz.prog 10 #[.agg #[.string n, .slice a1 l1 c1, .slice a2 l2 c2], .agg #[.string n, .slice b1 m1 e1, .slice b2 m2 e2]] w
      fun e w' => e = .returned (.bool true) ∧ Below w.heap.size w w' := by
  have q1 := hide (fun w (h1 : SlParam w a1 l1 l) (h2 : SlParam w b1 m1 l) => eqParamS_same a1 b1 l1 c1 m1 e1 l w h1 h2 hl1)
  have q2 := hide (fun w (h1 : SlCavTerm w a2 l2 ts) (h2 : SlCavTerm w b2 m2 ts) => eqCavTermS_same a2 b2 l2 c2 m2 e2 ts w h1 h2 hl2)
  have HS1 := hide hs1
  have HS2 := hide hs2
  have HT1 := hide ht1
  have HT2 := hide ht2
  clear hs1 hs2 ht1 ht2 hl1 hl2
  have bb := bAl (bAl (Below.refl w.heap.size w) (.cells #[.string n, .slice a1 l1 c1, .slice a2 l2 c2] 38)) (.cells #[.string n, .slice b1 m1 e1, .slice b2 m2 e2] 38)
  have B0 := hide bb
  have A0 := hide ((RowIs.new w #[.string n, .slice a1 l1 c1, .slice a2 l2 c2] 38).keep (bAl (Below.refl _ _) (.cells #[.string n, .slice b1 m1 e1, .slice b2 m2 e2] 38)))
  have C0 := RowIs.new (w.alloc (.cells #[.string n, .slice a1 l1 c1, .slice a2 l2 c2] 38)) #[.string n, .slice b1 m1 e1, .slice b2 m2 e2] 38
  rw [World.size_alloc] at C0
  replace C0 := hide C0
  clear bb
  go_enter Tryz.func10, Tryz.ntmps10
  go_wp2_with fail
  refine (unhide q1 _ ((unhide HS1).keep (unhide B0)) ((unhide HT1).keep (unhide B0))).mono ?_
  rintro e w2 ⟨rfl, hb2⟩
  have ra := (unhide A0).keep hb2
  have rc := (unhide C0).keep hb2
  have d6 := ra.at (o := 2) (v := .slice a2 l2 c2) rfl
  have f6 := rc.at (o := 2) (v := .slice b2 m2 e2) rfl
  have bw := bTr (unhide B0) hb2
  clear hb2 ra rc A0 C0 B0
  go_wp2_with fail
  refine (unhide q2 _ ((unhide HS2).keep bw) ((unhide HT2).keep bw)).mono ?_
  rintro e w3 ⟨rfl, hb3⟩
  go_wp2_with fail
  go_ret
  exact ⟨rfl, bTr bw hb3⟩

section
variable {H : Type} {enc : TypeId × Value → H} {w : World} {base : Nat} {sp : Nat → Bool} {held : Bool}
theorem listn3 {α : Type} {l : List α} (h : l.length = 3) : ∃ a b c, l = [a, b, c] := by
  match l, h with
  | [a, b, c], _ => exact ⟨a, b, c, rfl⟩
set_option maxRecDepth 100000 in
/-- A caveat that came in. -/
theorem read_caveat {r : Reach} {b0 : Nat} {v0 : Value} {d : DataW H} {p : List MemPlace} (hv : Value.okWide Tryz.prog w r b0 25 v0) (h : DataW.Trod enc Tryz.prog w base sp held 25 v0 d p) :
    ∃ (n : ByteArray) (l : List ParamT) (ts : List CavTermT) (a1 a2 : Option Addr) (l1 c1 l2 c2 : Nat), v0 = .agg #[.string n, .slice a1 l1 c1, .slice a2 l2 c2] ∧ n.size ≤ maxLen ∧
      SlParam w a1 l1 l ∧ SlCavTerm w a2 l2 ts ∧ (∀ q ∈ l, ParamT.Ok q) ∧ (∀ q ∈ ts, CavTermT.Ok q) ∧ l1 ≤ maxLen ∧ l2 ≤ maxLen := by
  have hc : Tryz.prog.cellsOf 25 = 3 := by kernel_rfl
  have k9 : Tryz.prog.cellsOf 9 = 1 := by kernel_rfl
  have kp : Tryz.prog.cellsOf 22 = 1 := by kernel_rfl
  have kt : Tryz.prog.cellsOf 23 = 1 := by kernel_rfl
  obtain ⟨cs, rfl, hsz⟩ := okWide_struct Tryz.underlying25 hv
  obtain ⟨fuel, hf0⟩ := h
  obtain ⟨xs, m, rfl, _, hlen, hx, hf⟩ := DataW.trod_struct Tryz.underlying25 hf0
  obtain ⟨l⟩ := cs
  obtain ⟨c0, c1, c2, rfl⟩ := listn3 (show l.length = 3 from (by simpa using hsz.trans hc))
  obtain ⟨x0, x1, x2, rfl⟩ := listn3 hx
  have h0 : DataW.trod enc Tryz.prog w base sp held m 9 [c0] = some x0 := by have := hf 0 _ rfl; simpa [k9, kp, kt, Value.cells] using this
  have h1 : DataW.trod enc Tryz.prog w base sp held m 22 [c1] = some x1 := by have := hf 1 _ rfl; simpa [k9, kp, kt, Value.cells] using this
  have h2 : DataW.trod enc Tryz.prog w base sp held m 23 [c2] = some x2 := by have := hf 2 _ rfl; simpa [k9, kp, kt, Value.cells] using this
  obtain ⟨n, q0, _, o0⟩ := DataW.trod_string Tryz.underlying9 h0
  simp at q0
  subst q0
  have g1 : ∃ a l c, c1 = .slice a l c := by
    rcases Go.Deep.open_slice Tryz.underlying22 h1 with ⟨hcs, _⟩ | ⟨a', len', cap', _, _, _, _, hcs, _⟩
    · simp at hcs; exact ⟨_, _, _, hcs⟩
    · simp at hcs; exact ⟨_, _, _, hcs⟩
  have g2 : ∃ a l c, c2 = .slice a l c := by
    rcases Go.Deep.open_slice Tryz.underlying23 h2 with ⟨hcs, _⟩ | ⟨a', len', cap', _, _, _, _, hcs, _⟩
    · simp at hcs; exact ⟨_, _, _, hcs⟩
    · simp at hcs; exact ⟨_, _, _, hcs⟩
  obtain ⟨a1, l1, e1, rfl⟩ := g1
  obtain ⟨a2, l2, e2, rfl⟩ := g2
  obtain ⟨ps, s1, o1, m1⟩ := reads_Param h1
  obtain ⟨ts, s2, o2, m2⟩ := reads_CavTerm h2
  exact ⟨n, ps, ts, a1, a2, l1, e1, l2, e2, rfl, o0, s1, s2, o1, o2, m1, m2⟩
end
end Go.Proofs.YtmkgehcfdcoliaaGreat.V
