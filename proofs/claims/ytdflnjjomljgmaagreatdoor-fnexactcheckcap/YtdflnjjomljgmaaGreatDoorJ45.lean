/- KGd, KCw, one behind the other. -/
import Derived.Test.YtdflnjjomljgmaaGreatDoorRTer
import Derived.Test.YtdflnjjomljgmaaGreatDoorJ25
import Derived.Deep.Cut
import Derived.Test.YtdflnjjomljgmaaGreatDoorJ44
import Derived.Test.YtdflnjjomljgmaaGreatDoorJ9
import Derived.Deep.RegionHeld3
/- What the laws of capabilities want of one: sz, to, eq, what came in. -/
namespace Go.Proofs.YtdflnjjomljgmaaGreatDoor.D
set_option maxRecDepth 20000
open Go.ChangeShapes Go.WideShapes Go.RowKit Go.Joins

abbrev cpV (id : ByteArray) (at' ag : Option Addr) (lt ct lg cg : Nat) : Value := .agg #[.string id, .slice at' lt ct, .slice ag lg cg]
abbrev cpC (id : ByteArray) (at' ag : Option Addr) (lt ct lg cg : Nat) : Array Value := #[.string id, .slice at' lt ct, .slice ag lg cg]
def SzR (len : Nat) (q : Int) (e : Ending) : Prop := ∃ m : Int, -1 ≤ m ∧ m ≤ q ∧ (0 ≤ m → (len : Int) ≤ q) ∧ e = .returned (.int .i64 m)
theorem szByteS_any (a : Option Addr) (len cap : Nat) (q : Int) (w : World) (h0 : 0 ≤ q) (h1 : q ≤ 1048576) (hl : len ≤ maxLen) :
    Calls Tryz.prog 15 #[.slice a len cap, .int .i64 q] w fun e w' => SzR len q e ∧ w = w' := by
  unfold maxLen at hl
  by_cases hlen : q < (len : Int)
  · go_enter Tryz.func15, Tryz.ntmps15
    go_wp2
    go_ret
    exact ⟨⟨-1, by omega, by omega, by omega, rfl⟩, rfl⟩
  · have d1 : decide (q - (len : Int) < 0) = false := by simp; omega
    go_enter Tryz.func15, Tryz.ntmps15
    go_wp2
    go_ret
    exact ⟨⟨q - len, by omega, by omega, fun _ => by omega, rfl⟩, rfl⟩
set_option maxHeartbeats 1000000 in
theorem szCap_any (id : ByteArray) (at' ag : Option Addr) (lt ct lg cg : Nat) (T : List V.CavTermT) (q : Int) (w : World) (h0 : 0 ≤ q) (h1 : q ≤ 1048576) (hid : id.size ≤ maxLen) (hl : lt ≤ maxLen) (hlg : lg ≤ maxLen) (hs : V.SlCavTerm w at' lt T) (ok : ∀ x ∈ T, V.CavTermT.Ok x) :
    Calls Tryz.prog 4 #[cpV id at' ag lt ct lg cg, .int .i64 q] w fun e w' => (∃ m : Int, -1 ≤ m ∧ m ≤ q ∧ (0 ≤ m → id.size ≤ 1048576 ∧ lt ≤ 1048576 ∧ lg ≤ 1048576) ∧ e = .returned (.int .i64 m)) ∧ Below w.heap.size w w' := by
  obtain ⟨W, hW⟩ : ∃ W, W = w.alloc (.cells (cpC id at' ag lt ct lg cg) 25) := ⟨_, rfl⟩
  have B := hide (show Below w.heap.size w W by rw [hW]; exact bAl (Below.refl _ _) _)
  have R := hide (show RowIs W w.heap.size (cpC id at' ag lt ct lg cg) 25 by rw [hW]; exact RowIs.new _ _ _)
  have HW := hide hW.symm
  have q1 := hide (fun q h0 h1 => V.szCavTermS_any at' lt ct T q W h0 h1 hl (hs.keep (unhide B)) ok)
  have q2 := hide (fun q w h0 h1 => szByteS_any ag lg cg q w h0 h1 hlg)
  unfold maxLen at hid
  clear hW hs ok hl hlg
  have x0 := (unhide R).at (o := 0) (v := .string id) rfl
  have x1 := (unhide R).at (o := 1) (v := .slice at' lt ct) rfl
  by_cases g0 : q < (id.size : Int)
  · go_enter Tryz.func4, Tryz.ntmps4
    go_wp2_with fail
    go_ret
    exact ⟨⟨-1, by omega, by omega, by omega, rfl⟩, bAl (Below.refl _ _) _⟩
  go_enter Tryz.func4, Tryz.ntmps4
  go_wp2_with fail
  rw [unhide HW]
  clear x0 x1 HW
  refine (unhide q1 _ (by omega) (by omega)).mono ?_
  rintro e w1 ⟨⟨m1, m1a, m1b, m1c, rfl⟩, hb1⟩
  have R1 := hide ((unhide R).keep hb1)
  have B1 := hide (bTr (unhide B) hb1)
  have x2 := (unhide R1).at (o := 2) (v := .slice ag lg cg) rfl
  clear hb1 q1 R B
  by_cases g1 : m1 < 0
  · go_wp2_with fail
    go_ret
    exact ⟨⟨-1, by omega, by omega, by omega, rfl⟩, unhide B1⟩
  go_wp2_with fail
  refine (unhide q2 _ _ (by omega) (by omega)).mono ?_
  rintro e w2 ⟨⟨m2, m2a, m2b, m2c, rfl⟩, rfl⟩
  by_cases g2 : m2 < 0
  · go_wp2_with fail
    go_ret
    exact ⟨⟨-1, by omega, by omega, by omega, rfl⟩, unhide B1⟩
  go_wp2_with fail
  go_ret
  exact ⟨⟨m2, by omega, by omega, by omega, rfl⟩, unhide B1⟩
theorem put4 {w3 : World} {o r g : Nat} {C : Array Value} {T : TypeId} (h : RowIs w3 g C T) (ho : g ≠ o) (hr : g ≠ r) (x a b c : Value) :
    RowIs ((((w3.setCell ⟨o, 2, none⟩ x).setCell ⟨r, 0, none⟩ a).setCell ⟨r, 1, none⟩ b).setCell ⟨r, 2, none⟩ c) g C T :=
  ((((But.refl r _).set a).set b).set c).row (((But.refl o w3).set x).row h ho) hr
theorem put4B {w w3 : World} {o r : Nat} (h : Below w.heap.size w w3) (ho : w.heap.size ≤ o) (hr : w.heap.size ≤ r) (x a b c : Value) :
    Below w.heap.size w ((((w3.setCell ⟨o, 2, none⟩ x).setCell ⟨r, 0, none⟩ a).setCell ⟨r, 1, none⟩ b).setCell ⟨r, 2, none⟩ c) :=
  (((h.setCell ho _).setCell hr _).setCell hr _).setCell hr _
theorem term_same {w w' : World} {b off : Nat} {C : Array Value} {t : TypeId} {l : List V.CavTermT} (h : V.CavTermRow w b off l) (r : RowIs w b C t) (r' : RowIs w' b C t) : V.CavTermRow w' b off l :=
  ⟨r'.lt, fun i hi => by rw [r'.cell, ← r.cell]; exact h.c0 i hi, fun i hi => by rw [r'.cell, ← r.cell]; exact h.c1 i hi, fun i hi => by rw [r'.cell, ← r.cell]; exact h.c2 i hi, fun i hi => by rw [r'.cell, ← r.cell]; exact h.c3 i hi, fun i hi => by rw [r'.cell, ← r.cell]; exact h.c4 i hi, fun i hi => by rw [r'.cell, ← r.cell]; exact h.c5 i hi, fun i hi => by rw [r'.cell, ← r.cell]; exact h.c6 i hi⟩
set_option maxHeartbeats 2000000 in
theorem toCap_any (id : ByteArray) (at' ag : Option Addr) (lt ct lg cg : Nat) (T : List V.CavTermT) (G : List UInt8) (w : World) (hl : lt ≤ 1048576) (hlg : lg ≤ 1048576) (hs : V.SlCavTerm w at' lt T) (hg : SlB w w.heap.size ag lg G) :
    Calls Tryz.prog 8 #[cpV id at' ag lt ct lg cg] w fun e w' => (∃ g1 g2 C, e = .returned (cpV id (some ⟨g1, 0, none⟩) (some ⟨g2, 0, none⟩) lt lt lg lg) ∧ RowIs w' g1 C 58 ∧ C.size = lt * 7 ∧ V.CavTermRow w' g1 0 T ∧ RowIs w' g2 (cellsOf G) 5 ∧ w.heap.size ≤ g1 ∧ g1 < g2) ∧ Below w.heap.size w w' := by
  obtain ⟨W, hW⟩ : ∃ W, W = ((w.alloc (.cells (cpC id at' ag lt ct lg cg) 25)).alloc (.cells #[.string ⟨#[]⟩, .slice none 0 0, .slice none 0 0] 38)).alloc (.cells #[.string id, .slice none 0 0, .slice none 0 0] 38) := ⟨_, rfl⟩
  have zW : W.heap.size = w.heap.size + 1 + 1 + 1 := by rw [hW]; simp
  have B0 : Below w.heap.size w W := by rw [hW]; exact bAl (bAl (bAl (Below.refl _ _) _) _) _
  have Rb : RowIs W w.heap.size (cpC id at' ag lt ct lg cg) 25 := by
    rw [hW]; exact ((RowIs.new w _ _).keep (bAl (Below.refl _ _) _)).keep (bAl (Below.refl _ _) _)
  have Rr : RowIs W (w.heap.size + 1) #[.string ⟨#[]⟩, .slice none 0 0, .slice none 0 0] 38 := by
    rw [hW]
    have := (RowIs.new (w.alloc (.cells (cpC id at' ag lt ct lg cg) 25)) #[.string ⟨#[]⟩, .slice none 0 0, .slice none 0 0] 38).keep (bAl (Below.refl _ _) (.cells #[.string id, .slice none 0 0, .slice none 0 0] 38))
    simpa using this
  have Ro : RowIs W (w.heap.size + 1 + 1) #[.string id, .slice none 0 0, .slice none 0 0] 38 := by
    rw [hW]
    have := RowIs.new ((w.alloc (.cells (cpC id at' ag lt ct lg cg) 25)).alloc (.cells #[.string ⟨#[]⟩, .slice none 0 0, .slice none 0 0] 38)) #[.string id, .slice none 0 0, .slice none 0 0] 38
    simpa using this
  have S1 := hide (hs.keep B0)
  have HB := hide B0
  have H2 := hide hg
  have E2 := hide hg.1
  have HW := hide hW.symm
  have HRb := hide Rb
  have HRr := hide Rr
  have HRo := hide Ro
  have HZ := hide zW
  clear hs hg hW B0 Rb Rr Ro zW
  go_enter Tryz.func8, Tryz.ntmps8
  go_wp2_with fail
  rw [unhide HW]
  refine (V.toCavTermS_own at' lt ct T W hl (unhide S1)).mono ?_
  rintro e w1 ⟨rfl, ⟨C1, hr1, hz1, hw1⟩, hb1⟩
  have R1 := hide (show RowIs w1 W.heap.size C1 58 from hr1)
  have W1 := hide hw1
  have Z1 := hide hz1
  have Rb1 := (unhide HRb).keep hb1
  have Ro1 := (unhide HRo).keep hb1
  have Rr1 := hide ((unhide HRr).keep hb1)
  have x2 := Rb1.at (o := 2) (v := .slice ag lg cg) rfl
  have xz := Rb1.lt
  have o0 := Ro1.at (o := 0) (v := .string id) rfl
  have o1 := Ro1.at (o := 1) (v := .slice none 0 0) rfl
  have o2 := Ro1.at (o := 2) (v := .slice none 0 0) rfl
  have oz := Ro1.lt
  have f0 := Ro1.froz 0
  have f1 := Ro1.froz 1
  have f2 := Ro1.froz 2
  obtain ⟨g1, hg1⟩ : ∃ g, g = W.heap.size := ⟨_, rfl⟩
  rw [← hg1] at R1 W1 ⊢
  obtain ⟨W2, hW2⟩ : ∃ W', W' = w1.setCell ⟨w.heap.size + 1 + 1, 1, none⟩ (.slice (some ⟨g1, 0, none⟩) lt lt) := ⟨_, rfl⟩
  have But2 : But (w.heap.size + 1 + 1) w1 W2 := by rw [hW2]; exact (But.refl _ _).set _
  have B2 := hide (show Below w.heap.size w W2 from (bTr (unhide HB) hb1).trans (But2.below (by omega) (by have := hb1.size; have := unhide HZ; omega)))
  have Ro2 := hide (show RowIs W2 (w.heap.size + 1 + 1) #[.string id, .slice (some ⟨g1, 0, none⟩) lt lt, .slice none 0 0] 38 by rw [hW2]; exact Ro1.set 1 _)
  have Rr2 := hide (But2.row (unhide Rr1) (by omega))
  have R12 := hide (But2.row (unhide R1) (by have := unhide HZ; omega))
  have W12 := hide (term_same (unhide W1) (unhide R1) (unhide R12))
  have S2 := hide (((unhide H2).keepB (unhide B2)).mono (unhide B2).size)
  have HW2 := hide hW2.symm
  have HG := hide (show w.heap.size + 1 + 1 < g1 by rw [hg1, unhide HZ]; omega)
  clear hW2 hg1 But2 hb1 hr1 hz1 hw1 Rb1 Ro1 Rr1 R1 W1 HRb HRo HRr HW S1
  go_wp2_with fail
  rw [unhide HW2]
  refine (toByteS_any ag lg cg G W2 hlg (unhide S2)).mono ?_
  rintro e w3 ⟨rfl, hr3, hb3⟩
  clear x2 xz o0 o1 o2 oz f0 f1 f2 HW2 S2
  have Ro3 := (unhide Ro2).keep hb3
  have Rr3 := (unhide Rr2).keep hb3
  have o0 := Ro3.at (o := 0) (v := .string id) rfl
  have o1 := Ro3.at (o := 1) (v := .slice (some ⟨g1, 0, none⟩) lt lt) rfl
  have o2 := Ro3.at (o := 2) (v := .slice none 0 0) rfl
  have oz := Ro3.lt
  have f2 := Ro3.froz 2
  have r0 := Rr3.at (o := 0) (v := .string ⟨#[]⟩) rfl
  have r1 := Rr3.at (o := 1) (v := .slice none 0 0) rfl
  have r2 := Rr3.at (o := 2) (v := .slice none 0 0) rfl
  have rz := Rr3.lt
  have h0 := Rr3.froz 0
  have h1 := Rr3.froz 1
  have h2 := Rr3.froz 2
  have R13 := hide ((unhide R12).keep hb3)
  have W13 := hide (term_same (unhide W12) (unhide R12) (unhide R13))
  have B3 := hide (bTr (unhide B2) hb3)
  have R3 := hide hr3
  have zo := hide (unhide R12).lt
  obtain ⟨g2, hg2⟩ : ∃ g, g = W2.heap.size := ⟨_, rfl⟩
  have HG2 := hide (show g1 < g2 by rw [hg2]; exact unhide zo)
  rw [← hg2] at R3 ⊢
  clear hg2 hb3 hr3 Ro3 Rr3 R12 Ro2 Rr2 B2 W12
  go_wp2_with fail
  have P1 := put4 (unhide R13) (o := w.heap.size + 1 + 1) (r := w.heap.size + 1) (by have := unhide HG; omega) (by have := unhide HG; omega) (.slice (some ⟨g2, 0, none⟩) lg lg) (.string id) (.slice (some ⟨g1, 0, none⟩) lt lt) (.slice (some ⟨g2, 0, none⟩) lg lg)
  have P2 := put4 (unhide R3) (o := w.heap.size + 1 + 1) (r := w.heap.size + 1) (by have := unhide HG; have := unhide HG2; omega) (by have := unhide HG; have := unhide HG2; omega) (.slice (some ⟨g2, 0, none⟩) lg lg) (.string id) (.slice (some ⟨g1, 0, none⟩) lt lt) (.slice (some ⟨g2, 0, none⟩) lg lg)
  have P3 := put4B (unhide B3) (o := w.heap.size + 1 + 1) (r := w.heap.size + 1) (by omega) (by omega) (.slice (some ⟨g2, 0, none⟩) lg lg) (.string id) (.slice (some ⟨g1, 0, none⟩) lt lt) (.slice (some ⟨g2, 0, none⟩) lg lg)
  exact bodyPost_ret (v := cpV id (some ⟨g1, 0, none⟩) (some ⟨g2, 0, none⟩) lt lt lg lg) (by simp [results, Tryz.results8, go_sem, r0, r1, r2]) rfl ⟨⟨g1, g2, C1, rfl, P1, unhide Z1, term_same (unhide W13) (unhide R13) P1, P2, by have := unhide HG; omega, unhide HG2⟩, P3⟩
set_option maxHeartbeats 1000000 in
theorem eqCap_same (id : ByteArray) (a1 a2 a3 a4 : Option Addr) (n1 c1 n2 c2 c3 c4 : Nat) (T : List V.CavTermT) (G : List UInt8) (w : World) (hl1 : n1 ≤ 1048576) (hl2 : n2 ≤ 1048576) (h1 : V.SlCavTerm w a1 n1 T) (h2 : SlB w w.heap.size a2 n2 G) (h3 : V.SlCavTerm w a3 n1 T) (h4 : SlB w w.heap.size a4 n2 G) :
    Calls Tryz.prog 12 #[cpV id a1 a2 n1 c1 n2 c2, cpV id a3 a4 n1 c3 n2 c4] w fun e w' => e = .returned (.bool true) ∧ Below w.heap.size w w' := by
  obtain ⟨W, hW⟩ : ∃ W, W = (w.alloc (.cells (cpC id a1 a2 n1 c1 n2 c2) 38)).alloc (.cells (cpC id a3 a4 n1 c3 n2 c4) 38) := ⟨_, rfl⟩
  have B0 : Below w.heap.size w W := by rw [hW]; exact bAl (bAl (Below.refl _ _) _) _
  have Ra : RowIs W w.heap.size (cpC id a1 a2 n1 c1 n2 c2) 38 := by
    rw [hW]; exact (RowIs.new w _ _).keep (bAl (Below.refl _ _) _)
  have Rb : RowIs W (w.heap.size + 1) (cpC id a3 a4 n1 c3 n2 c4) 38 := by
    rw [hW]
    have := RowIs.new (w.alloc (.cells (cpC id a1 a2 n1 c1 n2 c2) 38)) (cpC id a3 a4 n1 c3 n2 c4) 38
    simpa using this
  have q1 := hide (V.eqCavTermS_same a1 a3 n1 c1 n1 c3 T W (h1.keep B0) (h3.keep B0) (by unfold maxLen; omega))
  have S2 := hide ((h2.keep B0).mono B0.size)
  have S4 := hide ((h4.keep B0).mono B0.size)
  have HRa := hide Ra
  have HRb := hide Rb
  have HB := hide B0
  have HW := hide hW.symm
  have x0 := Ra.at (o := 0) (v := .string id) rfl
  have x1 := Ra.at (o := 1) (v := .slice a1 n1 c1) rfl
  have xz := Ra.lt
  have y0 := Rb.at (o := 0) (v := .string id) rfl
  have y1 := Rb.at (o := 1) (v := .slice a3 n1 c3) rfl
  have yz := Rb.lt
  clear h1 h2 h3 h4 hW Ra Rb B0
  go_enter Tryz.func12, Tryz.ntmps12
  go_upto_region 1 with fail
  rw [unhide HW]
  go_wp2_with fail
  refine (unhide q1).mono ?_
  rintro e w1 ⟨rfl, hb1⟩
  clear x0 x1 xz y0 y1 yz
  have Ra1 := (unhide HRa).keep hb1
  have Rb1 := (unhide HRb).keep hb1
  have x2 := Ra1.at (o := 2) (v := .slice a2 n2 c2) rfl
  have xz := Ra1.lt
  have y2 := Rb1.at (o := 2) (v := .slice a4 n2 c4) rfl
  have yz := Rb1.lt
  have q2 := hide (eqByteS_any a2 a4 n2 n2 c2 c4 G G w1 hl2 hl2 (((unhide S2).keep hb1).mono hb1.size) (((unhide S4).keep hb1).mono hb1.size))
  rw [decide_eq_true (rfl : G = G)] at q2
  have B1 := hide (bTr (unhide HB) hb1)
  clear Ra1 Rb1 HRa HRb hb1 S2 S4 q1 HW
  go_wp2_with fail
  refine (unhide q2).mono ?_
  rintro e w2 ⟨rfl, hb2⟩
  clear x2 xz y2 yz
  go_wp2_with fail
  go_ret
  exact ⟨rfl, bTr (unhide B1) hb2⟩
section
variable {H : Type} {enc : TypeId × Value → H} {w : World} {base : Nat} {sp : Nat → Bool} {held : Bool}
theorem came_bytes {fuel : Nat} {v : Value} {x : DataW H × List MemPlace} (h : DataW.trod enc Tryz.prog w base sp held fuel 22 [v] = some x) : ∃ (a : Option Addr) (len cap : Nat) (l : List UInt8), v = .slice a len cap ∧ SlB w w.heap.size a len l ∧ len ≤ maxLen := by
  rcases open_ints Tryz.underlying22 Tryz.underlying5 (by kernel_rfl) h with ⟨hcs, _⟩ | ⟨x, l, c, zs, hcs, _, hl, hm, hz, _, hcell, hwz⟩
  · simp at hcs
    subst hcs
    exact ⟨none, 0, 0, [], rfl, ⟨rfl, .inl rfl⟩, Nat.zero_le _⟩
  · simp at hcs
    subst hcs
    obtain ⟨⟨l', hs⟩, h1, h2⟩ := bytes_in (w := w) (a := some x) (len := l) (cap := zs.length) (zs := zs) (.inr ⟨x, rfl, by rw [hz]; split <;> omega, by rw [hz]; split <;> omega, rfl, hcell, hwz⟩)
    exact ⟨_, _, _, l', rfl, hs, Nat.le_trans h1 h2⟩
theorem came_terms {n : Nat} {v : Value} {x : DataW H × List MemPlace} (h : DataW.trod enc Tryz.prog w base sp held n 23 [v] = some x) : ∃ (a : Option Addr) (len cap : Nat) (T : List V.CavTermT), v = .slice a len cap ∧ V.SlCavTerm w a len T ∧ (∀ q ∈ T, V.CavTermT.Ok q) ∧ len ≤ maxLen := by
  have hv : ∃ (a : Option Addr) (len cap : Nat), v = .slice a len cap := by
    rcases Go.Deep.open_slice Tryz.underlying23 h with ⟨hcs, _⟩ | ⟨a', len', cap', m, n', D, Pl, hcs, _⟩
    · simp at hcs; exact ⟨_, _, _, hcs⟩
    · simp at hcs; exact ⟨_, _, _, hcs⟩
  obtain ⟨a, len, cap, rfl⟩ := hv
  obtain ⟨l, h1, h2, h3⟩ := V.reads_CavTerm h
  exact ⟨a, len, cap, l, rfl, h1, h2, h3⟩
set_option maxRecDepth 100000 in
theorem came_Cap {r : Reach} {b0 : Nat} {v0 : Value} {d : DataW H} {p : List MemPlace} (hv : Value.okWide Tryz.prog w r b0 25 v0) (h : DataW.Trod enc Tryz.prog w base sp held 25 v0 d p) :
    ∃ (id : ByteArray) (a1 a2 : Option Addr) (n1 c1 n2 c2 : Nat) (T : List V.CavTermT) (G : List UInt8), v0 = cpV id a1 a2 n1 c1 n2 c2 ∧ id.size ≤ maxLen ∧ V.SlCavTerm w a1 n1 T ∧ (∀ q ∈ T, V.CavTermT.Ok q) ∧ n1 ≤ maxLen ∧ SlB w w.heap.size a2 n2 G ∧ n2 ≤ maxLen := by
  obtain ⟨c0, c1, c2, y0, y1, y2, m, rfl, _, _, g0, g1, g2⟩ := open_agg3 Tryz.underlying25 (by kernel_rfl) (by kernel_rfl) hv h
  obtain ⟨b, q0, _, wb⟩ := DataW.trod_string Tryz.underlying9 g0
  obtain ⟨a1, n1, k1, l, rfl, s1, o1, e1⟩ := came_terms g1
  obtain ⟨a2, n2, k2, l2, rfl, s2, e2⟩ := came_bytes g2
  simp at q0
  subst q0
  exact ⟨b, a1, a2, n1, k1, n2, k2, l, l2, rfl, wb, s1, o1, e1, s2, e2⟩
end
end Go.Proofs.YtdflnjjomljgmaaGreatDoor.D
/- The walk of CheckCap's law. -/
namespace Go.Proofs.YtdflnjjomljgmaaGreatDoor.D
open Go.RowKit
set_option maxRecDepth 20000
set_option linter.unusedVariables false

structure CkA where
  id : ByteArray
  a1 : Option Addr
  a2 : Option Addr
  ak : Option Addr
  e1 : Option Addr
  e2 : Option Addr
  n1 : Nat
  c1 : Nat
  c2 : Nat
  lk : Nat
  ck : Nat
  m1 : Nat
  d1 : Nat
  m2 : Nat
  d2 : Nat
  T : List V.CavTermT
  G : List UInt8
  K : List UInt8
  v : V.ValT
structure CkOk (A : CkA) : Prop where
  hid : A.id.size ≤ maxLen
  ok : ∀ q ∈ A.T, V.CavTermT.Ok q
  l1 : A.n1 ≤ maxLen
  lg : A.G.length ≤ maxLen
  hv : A.v.Ok
  m1 : A.m1 ≤ maxLen
  m2 : A.m2 ≤ maxLen
  lk : A.lk ≤ maxLen
structure CkS (A : CkA) : Prop where
  n1 : A.n1 ≤ 1048576
  g : A.G.length ≤ 1048576
  m1 : A.m1 ≤ 1048576
  m2 : A.m2 ≤ 1048576
  k : A.lk ≤ 1048576
structure Lw (A : CkA) (w Z : World) : Prop where
  hb : Below w.heap.size w Z
  r : RowIs Z w.heap.size (cpC A.id A.a1 A.a2 A.n1 A.c1 A.G.length A.c2) 25
  u : RowIs Z (w.heap.size + 1) (vC A.v A.e1 A.m1 A.d1 A.e2 A.m2 A.d2) 31
  s : V.SlCavTerm Z A.a1 A.n1 A.T
  g : SlB Z Z.heap.size A.a2 A.G.length A.G
  k : SlB Z Z.heap.size A.ak A.lk A.K
  i : V.SlA Z A.e1 A.m1 A.v.items
  n : V.SlS Z A.e2 A.m2 A.v.names
theorem Lw.keep {A : CkA} {w Z Z' : World} (h : Lw A w Z) (hb : Below Z.heap.size Z Z') : Lw A w Z' :=
  ⟨bTr h.hb hb, h.r.keep hb, h.u.keep hb, h.s.keep hb, (h.g.keep hb).mono hb.size, (h.k.keep hb).mono hb.size, h.i.keep hb, h.n.keep hb⟩
theorem Lw.dr {A : CkA} {w Z : World} (h : Lw A w Z) : Lw A w Z.drew := h.keep (Below.refl _ _).drew
/-- A copy of a capability, of a value, of bytes. -/
structure CpC (A : CkA) (Z : World) (p1 p2 : Nat) : Prop where
  t : V.SlCavTerm Z (some ⟨p1, 0, none⟩) A.n1 A.T
  g : SlB Z Z.heap.size (some ⟨p2, 0, none⟩) A.G.length A.G
theorem CpC.keep {A : CkA} {Z Z' : World} {p1 p2 : Nat} (h : CpC A Z p1 p2) (hb : Below Z.heap.size Z Z') : CpC A Z' p1 p2 := ⟨h.t.keep hb, (h.g.keep hb).mono hb.size⟩
structure CpV (A : CkA) (Z : World) (q1 q2 : Nat) : Prop where
  i : V.SlA Z (some ⟨q1, 0, none⟩) A.m1 A.v.items
  n : V.SlS Z (some ⟨q2, 0, none⟩) A.m2 A.v.names
theorem CpV.keep {A : CkA} {Z Z' : World} {q1 q2 : Nat} (h : CpV A Z q1 q2) (hb : Below Z.heap.size Z Z') : CpV A Z' q1 q2 := ⟨h.i.keep hb, h.n.keep hb⟩
def CpK (A : CkA) (Z : World) (k : Nat) : Prop := SlB Z Z.heap.size (some ⟨k, 0, none⟩) A.lk A.K
theorem CpK.keep {A : CkA} {Z Z' : World} {k : Nat} (h : CpK A Z k) (hb : Below Z.heap.size Z Z') : CpK A Z' k := (SlB.keep h hb).mono hb.size
theorem qtC {A : CkA} (hS : CkS A) {w Z : World} (h : Lw A w Z) :
    Calls Tryz.prog 8 #[cpV A.id A.a1 A.a2 A.n1 A.c1 A.G.length A.c2] Z fun e w' => (∃ p1 p2, e = .returned (cpV A.id (some ⟨p1, 0, none⟩) (some ⟨p2, 0, none⟩) A.n1 A.n1 A.G.length A.G.length) ∧ CpC A w' p1 p2) ∧ Below Z.heap.size Z w' :=
  (toCap_any A.id A.a1 A.a2 A.n1 A.c1 A.G.length A.c2 A.T A.G Z hS.n1 hS.g h.s h.g).mono fun _ _ ⟨⟨g1, g2, _, e, _, _, hw, hb, _, _⟩, b⟩ => ⟨⟨g1, g2, e, ⟨h.s.1, .inr ⟨_, 0, rfl, hw⟩⟩, slB_row hb hb.lt⟩, b⟩
theorem qtV {A : CkA} (hS : CkS A) {w Z : World} (h : Lw A w Z) :
    Calls Tryz.prog 9 #[.agg (vC A.v A.e1 A.m1 A.d1 A.e2 A.m2 A.d2)] Z fun e w' => (∃ q1 q2, e = .returned (.agg (vC A.v (some ⟨q1, 0, none⟩) A.m1 A.m1 (some ⟨q2, 0, none⟩) A.m2 A.m2)) ∧ CpV A w' q1 q2) ∧ Below Z.heap.size Z w' :=
  (V.toValue_any A.v A.e1 A.e2 A.m1 A.d1 A.m2 A.d2 Z hS.m1 hS.m2 h.i h.n).mono fun _ _ ⟨b1, b2, e, r1, r2, b⟩ => ⟨⟨b1, b2, e, ⟨h.i.1, .inr ⟨_, 0, rfl, r1⟩⟩, ⟨h.n.1, .inr ⟨_, 0, rfl, r2⟩⟩⟩, b⟩
theorem qtK {A : CkA} (hS : CkS A) {w Z : World} (h : Lw A w Z) (ck : Nat) :
    Calls Tryz.prog 7 #[.slice A.ak A.lk ck] Z fun e w' => (∃ k, e = .returned (.slice (some ⟨k, 0, none⟩) A.lk A.lk) ∧ CpK A w' k) ∧ Below Z.heap.size Z w' :=
  (toByteS_any A.ak A.lk ck A.K Z hS.k h.k).mono fun _ _ ⟨e, r, b⟩ => ⟨⟨_, e, by have := slB_row r r.lt; rw [← h.k.1] at this; exact this⟩, b⟩
/-- The copies that the program is asked with. -/
structure Lx (A : CkA) (Z : World) (bx by' p1 p2 q1 q2 k : Nat) : Prop where
  c : RowIs Z bx (cpC A.id (some ⟨p1, 0, none⟩) (some ⟨p2, 0, none⟩) A.n1 A.n1 A.G.length A.G.length) 38
  u : RowIs Z by' (vC A.v (some ⟨q1, 0, none⟩) A.m1 A.m1 (some ⟨q2, 0, none⟩) A.m2 A.m2) 43
  pc : CpC A Z p1 p2
  pv : CpV A Z q1 q2
  pk : CpK A Z k
theorem Lx.keep {A : CkA} {Z Z' : World} {bx by' p1 p2 q1 q2 k : Nat} (h : Lx A Z bx by' p1 p2 q1 q2 k) (hb : Below Z.heap.size Z Z') : Lx A Z' bx by' p1 p2 q1 q2 k :=
  ⟨h.c.keep hb, h.u.keep hb, h.pc.keep hb, h.pv.keep hb, h.pk.keep hb⟩
theorem Lx.dr {A : CkA} {Z : World} {bx by' p1 p2 q1 q2 k : Nat} (h : Lx A Z bx by' p1 p2 q1 q2 k) : Lx A Z.drew bx by' p1 p2 q1 q2 k := h.keep (Below.refl _ _).drew
theorem ChkRet.uniq {lk : Nat} {K : List UInt8} {id : ByteArray} {T : List V.CavTermT} {G : List UInt8} {v : V.ValT} {e e' : Ending} (h : ChkRet lk K id T G v e) (h' : ChkRet lk K id T G v e') : e' = e := by
  obtain ⟨r, rfl, y, n⟩ := h
  obtain ⟨r', rfl, y', n'⟩ := h'
  by_cases p : ChkP lk id T G.length v
  · rw [y p, y' p]
  · rw [n p, n' p]
set_option maxHeartbeats 8000000 in
theorem walkC (A : CkA) (w : World) (ho : CkOk A) (hs : V.SlCavTerm w A.a1 A.n1 A.T) (hg : SlB w w.heap.size A.a2 A.G.length A.G) (hk : SlB w w.heap.size A.ak A.lk A.K) (hi : V.SlA w A.e1 A.m1 A.v.items) (hn : V.SlS w A.e2 A.m2 A.v.names) (hT : Tab w) (hSg : V.Signs w) (hM : Mults w) :
    Calls Tryz.prog 3 #[.slice A.ak A.lk A.ck, cpV A.id A.a1 A.a2 A.n1 A.c1 A.G.length A.c2, .agg (vC A.v A.e1 A.m1 A.d1 A.e2 A.m2 A.d2)] w fun e w' => e = .returned (.bool true) ∧ Below w.heap.size w w' := by
  obtain ⟨W0, hW0⟩ : ∃ W, W = w.alloc (.cells (cpC A.id A.a1 A.a2 A.n1 A.c1 A.G.length A.c2) 25) := ⟨_, rfl⟩
  obtain ⟨W, hW⟩ : ∃ W, W = W0.alloc (.cells (vC A.v A.e1 A.m1 A.d1 A.e2 A.m2 A.d2) 31) := ⟨_, rfl⟩
  have z0 : W0.heap.size = w.heap.size + 1 := by rw [hW0]; simp
  have B0 : Below w.heap.size w W0 := by rw [hW0]; exact bAl (Below.refl _ _) _
  have b1 : Below W0.heap.size W0 W := by rw [hW]; exact bAl (Below.refl _ _) _
  have B := bTr B0 b1
  have E := hide (show Lw A w W from ⟨B, (show RowIs W0 w.heap.size (cpC A.id A.a1 A.a2 A.n1 A.c1 A.G.length A.c2) 25 by rw [hW0]; exact RowIs.new _ _ _).keep b1, (by rw [hW, ← z0]; exact RowIs.new _ _ _), hs.keep B, (hg.keep B).mono B.size, (hk.keep B).mono B.size, hi.keep B, hn.keep B⟩)
  have HM := hide (fun Z (h : Lw A w Z) => hM.keepB h.hb hM.1)
  have HX := hide (fun Z (h : Lw A w Z) => hSg.keep h.hb)
  have HY := hide (fun Z (h : Lw A w Z) => hT.keep h.hb)
  rw [hW0] at hW
  have HW := hide hW.symm
  have HO := hide ho
  have zK := ho.lk
  unfold maxLen at zK
  clear hW hW0 b1 B0 z0 W0 B hs hg hk hi hn hT hSg hM ho
  by_cases h20 : A.lk ≤ 1048576
  rotate_left
  · have n20 : (1048576 : Int) < (A.lk : Int) := by omega
    go_enter Tryz.func3, Tryz.ntmps3
    go_upto_region 1 with fail
    rw [unhide HW]
    clear HW
    go_wp2_with fail
    go_ret
    exact ⟨rfl, (unhide E).hb⟩
  have n20 : ¬ (1048576 : Int) < (A.lk : Int) := by omega
  have x0 := (unhide E).r.at (o := 0) (v := .string A.id) rfl
  have x1 := (unhide E).r.at (o := 1) (v := .slice A.a1 A.n1 A.c1) rfl
  have x2 := (unhide E).r.at (o := 2) (v := .slice A.a2 A.G.length A.c2) rfl
  have zx := (unhide E).r.lt
  go_enter Tryz.func3, Tryz.ntmps3
  go_upto_region 1 with fail
  rw [unhide HW]
  clear HW
  go_wp2_with fail
  refine (szCap_any A.id A.a1 A.a2 A.n1 A.c1 A.G.length A.c2 A.T _ W (by omega) (by omega) (unhide HO).hid (unhide HO).l1 (unhide HO).lg (unhide E).s (unhide HO).ok).mono ?_
  rintro e w1 ⟨⟨m, hm1, hm2, hm3, rfl⟩, hb1⟩
  have E1 := hide ((unhide E).keep hb1)
  clear hb1 E x0 x1 x2 zx
  by_cases hm : m < 0
  · go_wp2_with fail
    go_ret
    exact ⟨rfl, (unhide E1).hb⟩
  have Z1 := hide (hm3 (by omega))
  clear hm3
  have y0 := (unhide E1).u.at (o := 0) (v := .int .i64 A.v.k) rfl
  have y1 := (unhide E1).u.at (o := 1) (v := .int .i64 A.v.a.x) rfl
  have y2 := (unhide E1).u.at (o := 2) (v := .int .i64 A.v.a.n) rfl
  have y3 := (unhide E1).u.at (o := 3) (v := .string A.v.a.t) rfl
  have y4 := (unhide E1).u.at (o := 4) (v := .string A.v.a.y) rfl
  have y5 := (unhide E1).u.at (o := 5) (v := .slice A.e1 A.m1 A.d1) rfl
  have y6 := (unhide E1).u.at (o := 6) (v := .slice A.e2 A.m2 A.d2) rfl
  have zy := (unhide E1).u.lt
  go_wp2_with fail
  refine (V.szValue_any A.v (unhide HO).hv A.e1 A.e2 A.m1 A.d1 A.m2 A.d2 _ w1 (by omega) (by omega) (unhide HO).m1 (unhide HO).m2 (unhide E1).i (unhide E1).n).mono ?_
  rintro e w2 ⟨⟨m2, hm4, hm5, hm6, rfl⟩, hb2⟩
  have E2 := hide ((unhide E1).keep hb2)
  clear hb2 E1 y0 y1 y2 y3 y4 y5 y6 zy
  by_cases hm' : m2 < 0
  · go_wp2_with fail
    go_ret
    exact ⟨rfl, (unhide E2).hb⟩
  have ZS := hide (show CkS A from ⟨(unhide Z1).2.1, (unhide Z1).2.2, by have := (hm6 (by omega)).1; omega, by have := (hm6 (by omega)).2; omega, h20⟩)
  clear hm6 Z1
  go_upto_region 10 with fail
  have D0 := hide (unhide E2).dr
  have CA : Hid (∀ Z, Lw A w Z → (Z.cell? ⟨w.heap.size, 0, none⟩ = some (.string A.id) ∧ Z.cell? ⟨w.heap.size, 1, none⟩ = some (.slice A.a1 A.n1 A.c1) ∧ Z.cell? ⟨w.heap.size, 2, none⟩ = some (.slice A.a2 A.G.length A.c2) ∧ Z.cell? ⟨w.heap.size + 1, 0, none⟩ = some (.int .i64 A.v.k) ∧ Z.cell? ⟨w.heap.size + 1, 1, none⟩ = some (.int .i64 A.v.a.x) ∧ Z.cell? ⟨w.heap.size + 1, 2, none⟩ = some (.int .i64 A.v.a.n) ∧ Z.cell? ⟨w.heap.size + 1, 3, none⟩ = some (.string A.v.a.t) ∧ Z.cell? ⟨w.heap.size + 1, 4, none⟩ = some (.string A.v.a.y) ∧ Z.cell? ⟨w.heap.size + 1, 5, none⟩ = some (.slice A.e1 A.m1 A.d1) ∧ Z.cell? ⟨w.heap.size + 1, 6, none⟩ = some (.slice A.e2 A.m2 A.d2))) := hide (fun Z h => ⟨h.r.at rfl, h.r.at rfl, h.r.at rfl, h.u.at rfl, h.u.at rfl, h.u.at rfl, h.u.at rfl, h.u.at rfl, h.u.at rfl, h.u.at rfl⟩)
  have qk := hide (qtK (unhide ZS) (unhide D0) A.ck)
  go_region_held3 (fun Z => Z.cell? ⟨w.heap.size, 0, none⟩ = some (.string A.id) ∧ Z.cell? ⟨w.heap.size, 1, none⟩ = some (.slice A.a1 A.n1 A.c1) ∧ Z.cell? ⟨w.heap.size, 2, none⟩ = some (.slice A.a2 A.G.length A.c2) ∧ Z.cell? ⟨w.heap.size + 1, 0, none⟩ = some (.int .i64 A.v.k) ∧ Z.cell? ⟨w.heap.size + 1, 1, none⟩ = some (.int .i64 A.v.a.x) ∧ Z.cell? ⟨w.heap.size + 1, 2, none⟩ = some (.int .i64 A.v.a.n) ∧ Z.cell? ⟨w.heap.size + 1, 3, none⟩ = some (.string A.v.a.t) ∧ Z.cell? ⟨w.heap.size + 1, 4, none⟩ = some (.string A.v.a.y) ∧ Z.cell? ⟨w.heap.size + 1, 5, none⟩ = some (.slice A.e1 A.m1 A.d1) ∧ Z.cell? ⟨w.heap.size + 1, 6, none⟩ = some (.slice A.e2 A.m2 A.d2))
    (first
      | exact unhide CA _ (unhide D0)
      | exact unhide CA _ (unhide D4)
      | exact unhide CA _ (unhide D3)
      | exact unhide CA _ (unhide D2)
      | exact unhide CA _ (unhide D1))
    (first
      | (go_at_call 7; (with_reducible refine (unhide qk).mono ?_); rintro e w3 ⟨⟨k1, rfl, ck1⟩, hb3⟩; have D1 := hide ((unhide D0).keep hb3); have K1 := hide ck1; have qt := hide (qtC (unhide ZS) (unhide D1)); clear hb3 ck1)
      | (go_at_call 8; (with_reducible refine (unhide qt).mono ?_); rintro e w4 ⟨⟨p1, p2, rfl, cp1⟩, hb4⟩; have D2 := hide ((unhide D1).keep hb4); have K2 := hide ((unhide K1).keep hb4); have T2 := hide cp1; have qv := hide (qtV (unhide ZS) (unhide D2)); clear hb4 cp1)
      | (go_at_call 9; (with_reducible refine (unhide qv).mono ?_); rintro e w5 ⟨⟨q1, q2, rfl, cv1⟩, hb5⟩; have D3 := hide ((unhide D2).keep hb5); have K3 := hide ((unhide K2).keep hb5); have T3 := hide ((unhide T2).keep hb5); have U3 := hide cv1; clear hb5 cv1; have qs := hide (sCheckCap_any A.id (some ⟨p1, 0, none⟩) (some ⟨p2, 0, none⟩) (some ⟨k1, 0, none⟩) A.n1 A.n1 A.G.length A.lk A.lk A.T A.G A.K A.v (some ⟨q1, 0, none⟩) (some ⟨q2, 0, none⟩) A.m1 A.m1 A.m2 A.m2 w5 (unhide HO).hid (unhide ZS).n1 (unhide T3).t (unhide HO).ok (unhide T3).g (unhide K3) (unhide ZS).k (unhide HO).hv (unhide HO).m1 (unhide U3).i (unhide U3).n))
      | (go_at_call 6; (with_reducible refine (unhide qs).mono ?_); rintro e w6 ⟨hr6, hb6⟩; obtain ⟨R0, rfl⟩ : ∃ r : Int, e = .returned (.int .i64 r) := ⟨_, hr6.choose_spec.1⟩; have RR := hide hr6; have D4 := hide ((unhide D3).keep hb6); clear hb6 hr6))
  clear qk qt qv qs D0 D1 D2 D3 K1 K2 K3 T2 T3 U3 E2
  go_wp2_with fail
  refine (qtK (unhide ZS) (unhide D4) A.ck).mono ?_
  rintro e w7 ⟨⟨k, rfl, ck⟩, hb7⟩
  have E7 := hide ((unhide D4).keep hb7)
  have K7 := hide ck
  clear hb7 ck D4
  have x0 := (unhide E7).r.at (o := 0) (v := .string A.id) rfl
  have x1 := (unhide E7).r.at (o := 1) (v := .slice A.a1 A.n1 A.c1) rfl
  have x2 := (unhide E7).r.at (o := 2) (v := .slice A.a2 A.G.length A.c2) rfl
  have zx := (unhide E7).r.lt
  go_wp2_with fail
  refine (qtC (unhide ZS) (unhide E7)).mono ?_
  rintro e w8 ⟨⟨p1, p2, rfl, cp⟩, hb8⟩
  have E8 := hide ((unhide E7).keep hb8)
  have K8 := hide ((unhide K7).keep hb8)
  have T8 := hide cp
  clear hb8 cp E7 K7 x0 x1 x2 zx
  obtain ⟨W9, hW9⟩ : ∃ W, W = w8.alloc (.cells (cpC A.id (some ⟨p1, 0, none⟩) (some ⟨p2, 0, none⟩) A.n1 A.n1 A.G.length A.G.length) 38) := ⟨_, rfl⟩
  have b9 : Below w8.heap.size w8 W9 := by rw [hW9]; exact bAl (Below.refl _ _) _
  have R9 := hide (show RowIs W9 w8.heap.size (cpC A.id (some ⟨p1, 0, none⟩) (some ⟨p2, 0, none⟩) A.n1 A.n1 A.G.length A.G.length) 38 by rw [hW9]; exact RowIs.new _ _ _)
  have HW9 := hide hW9.symm
  have E9 := hide ((unhide E8).keep b9)
  have K9 := hide ((unhide K8).keep b9)
  have T9 := hide ((unhide T8).keep b9)
  clear hW9 b9 E8 K8 T8
  have y0 := (unhide E9).u.at (o := 0) (v := .int .i64 A.v.k) rfl
  have y1 := (unhide E9).u.at (o := 1) (v := .int .i64 A.v.a.x) rfl
  have y2 := (unhide E9).u.at (o := 2) (v := .int .i64 A.v.a.n) rfl
  have y3 := (unhide E9).u.at (o := 3) (v := .string A.v.a.t) rfl
  have y4 := (unhide E9).u.at (o := 4) (v := .string A.v.a.y) rfl
  have y5 := (unhide E9).u.at (o := 5) (v := .slice A.e1 A.m1 A.d1) rfl
  have y6 := (unhide E9).u.at (o := 6) (v := .slice A.e2 A.m2 A.d2) rfl
  have zy := (unhide E9).u.lt
  go_upto_region 13 with fail
  rw [unhide HW9]
  clear HW9
  generalize w8.heap.size = bx at R9 ⊢
  go_wp2_with fail
  refine (qtV (unhide ZS) (unhide E9)).mono ?_
  rintro e w10 ⟨⟨q1, q2, rfl, cv⟩, hb10⟩
  have E10 := hide ((unhide E9).keep hb10)
  have K10 := hide ((unhide K9).keep hb10)
  have T10 := hide ((unhide T9).keep hb10)
  have R10 := hide ((unhide R9).keep hb10)
  have U10 := hide cv
  clear hb10 cv E9 K9 T9 R9 y0 y1 y2 y3 y4 y5 y6 zy
  obtain ⟨W11, hW11⟩ : ∃ W, W = w10.alloc (.cells (vC A.v (some ⟨q1, 0, none⟩) A.m1 A.m1 (some ⟨q2, 0, none⟩) A.m2 A.m2) 43) := ⟨_, rfl⟩
  have b11 : Below w10.heap.size w10 W11 := by rw [hW11]; exact bAl (Below.refl _ _) _
  have R11 := show RowIs W11 w10.heap.size (vC A.v (some ⟨q1, 0, none⟩) A.m1 A.m1 (some ⟨q2, 0, none⟩) A.m2 A.m2) 43 by rw [hW11]; exact RowIs.new _ _ _
  have HW11 := hide hW11.symm
  have E11 := hide ((unhide E10).keep b11)
  have X11 := hide (show Lx A W11 bx w10.heap.size p1 p2 q1 q2 k from ⟨(unhide R10).keep b11, R11, (unhide T10).keep b11, (unhide U10).keep b11, (unhide K10).keep b11⟩)
  clear hW11 b11 E10 K10 T10 U10 R10 R11
  have d0 := (unhide X11).c.at (o := 0) (v := .string A.id) rfl
  have d1 := (unhide X11).c.at (o := 1) (v := .slice (some ⟨p1, 0, none⟩) A.n1 A.n1) rfl
  have d2 := (unhide X11).c.at (o := 2) (v := .slice (some ⟨p2, 0, none⟩) A.G.length A.G.length) rfl
  have f0 := (unhide X11).u.at (o := 0) (v := .int .i64 A.v.k) rfl
  have f1 := (unhide X11).u.at (o := 1) (v := .int .i64 A.v.a.x) rfl
  have f2 := (unhide X11).u.at (o := 2) (v := .int .i64 A.v.a.n) rfl
  have f3 := (unhide X11).u.at (o := 3) (v := .string A.v.a.t) rfl
  have f4 := (unhide X11).u.at (o := 4) (v := .string A.v.a.y) rfl
  have f5 := (unhide X11).u.at (o := 5) (v := .slice (some ⟨q1, 0, none⟩) A.m1 A.m1) rfl
  have f6 := (unhide X11).u.at (o := 6) (v := .slice (some ⟨q2, 0, none⟩) A.m2 A.m2) rfl
  have dz := (unhide X11).c.lt
  have fz := (unhide X11).u.lt
  go_upto_region 14 with fail
  rw [unhide HW11]
  clear HW11
  generalize w10.heap.size = by' at *
  go_wp2_with fail
  refine (iCheckCap_any A.id (some ⟨p1, 0, none⟩) (some ⟨p2, 0, none⟩) (some ⟨k, 0, none⟩) A.n1 A.n1 A.G.length A.lk A.lk A.T A.G A.K A.v (some ⟨q1, 0, none⟩) (some ⟨q2, 0, none⟩) A.m1 A.m1 A.m2 A.m2 W11 (unhide HO).hid (unhide ZS).n1 (unhide X11).pc.t (unhide HO).ok (unhide X11).pc.g (unhide X11).pk (unhide ZS).k (unhide HO).hv (unhide HO).m1 (unhide X11).pv.i (unhide X11).pv.n (unhide HM _ (unhide E11)) (unhide HX _ (unhide E11)) (unhide HY _ (unhide E11))).mono ?_
  rintro e w12 ⟨hr12, hb12⟩
  obtain rfl := (unhide RR).uniq hr12
  have E12 := hide ((unhide E11).keep hb12)
  have X12 := hide ((unhide X11).keep hb12)
  clear hb12 hr12 E11 X11 HM HX HY RR d0 d1 d2 f0 f1 f2 f3 f4 f5 f6 dz fz
  have hne : (R0 != R0) = false := by simp
  go_wp2_with fail
  refine (qtK (unhide ZS) (unhide E12) A.ck).mono ?_
  rintro e w13 ⟨⟨k', rfl, ck'⟩, hb13⟩
  have E13 := hide ((unhide E12).keep hb13)
  have X13 := hide ((unhide X12).keep hb13)
  have qe := hide (eqByteS_any (some ⟨k, 0, none⟩) (some ⟨k', 0, none⟩) A.lk A.lk A.lk A.lk A.K A.K w13 (unhide ZS).k (unhide ZS).k ((unhide X12).pk.keep hb13) ck')
  rw [decide_eq_true (rfl : A.K = A.K)] at qe
  clear hb13 ck' E12 X12
  go_wp2_with fail
  refine (unhide qe).mono ?_
  rintro e w14 ⟨rfl, hb14⟩
  have E14 := hide ((unhide E13).keep hb14)
  have X14 := hide ((unhide X13).keep hb14)
  clear hb14 E13 X13 qe
  go_upto_region 19 with fail
  have D0 := hide (unhide E14).dr
  have F0 := hide (unhide X14).dr
  clear E14 X14
  have CB : Hid (∀ Z, Lw A w Z → Lx A Z bx by' p1 p2 q1 q2 k → (Z.cell? ⟨bx, 0, none⟩ = some (.string A.id) ∧ Z.cell? ⟨bx, 1, none⟩ = some (.slice (some ⟨p1, 0, none⟩) A.n1 A.n1) ∧ Z.cell? ⟨bx, 2, none⟩ = some (.slice (some ⟨p2, 0, none⟩) A.G.length A.G.length) ∧ Z.cell? ⟨w.heap.size, 0, none⟩ = some (.string A.id) ∧ Z.cell? ⟨w.heap.size, 1, none⟩ = some (.slice A.a1 A.n1 A.c1) ∧ Z.cell? ⟨w.heap.size, 2, none⟩ = some (.slice A.a2 A.G.length A.c2))) := hide (fun Z h x => ⟨x.c.at rfl, x.c.at rfl, x.c.at rfl, h.r.at rfl, h.r.at rfl, h.r.at rfl⟩)
  have qt := hide (qtC (unhide ZS) (unhide D0))
  go_region_held3 (fun Z => Z.cell? ⟨bx, 0, none⟩ = some (.string A.id) ∧ Z.cell? ⟨bx, 1, none⟩ = some (.slice (some ⟨p1, 0, none⟩) A.n1 A.n1) ∧ Z.cell? ⟨bx, 2, none⟩ = some (.slice (some ⟨p2, 0, none⟩) A.G.length A.G.length) ∧ Z.cell? ⟨w.heap.size, 0, none⟩ = some (.string A.id) ∧ Z.cell? ⟨w.heap.size, 1, none⟩ = some (.slice A.a1 A.n1 A.c1) ∧ Z.cell? ⟨w.heap.size, 2, none⟩ = some (.slice A.a2 A.G.length A.c2))
    (first
      | exact unhide CB _ (unhide D0) (unhide F0)
      | exact unhide CB _ (unhide D2) (unhide F2)
      | exact unhide CB _ (unhide D1) (unhide F1))
    (first
      | (go_at_call 8; (with_reducible refine (unhide qt).mono ?_); rintro e w15 ⟨⟨g1, g2, rfl, cp1⟩, hb15⟩; have D1 := hide ((unhide D0).keep hb15); have F1 := hide ((unhide F0).keep hb15); have qe := hide (eqCap_same A.id (some ⟨p1, 0, none⟩) (some ⟨p2, 0, none⟩) (some ⟨g1, 0, none⟩) (some ⟨g2, 0, none⟩) A.n1 A.n1 A.G.length A.G.length A.n1 A.G.length A.T A.G w15 (unhide ZS).n1 (unhide ZS).g (unhide F1).pc.t (unhide F1).pc.g cp1.t cp1.g); clear hb15 cp1)
      | (go_at_call 12; (with_reducible refine (unhide qe).mono ?_); rintro e w16 ⟨rfl, hb16⟩; have D2 := hide ((unhide D1).keep hb16); have F2 := hide ((unhide F1).keep hb16); clear hb16))
  clear qt qe D0 D1 F0 F1
  go_upto_region 21 with fail
  have G0 := hide (unhide D2).dr
  have H0 := hide (unhide F2).dr
  clear D2 F2
  have CC : Hid (∀ Z, Lw A w Z → Lx A Z bx by' p1 p2 q1 q2 k → (Z.cell? ⟨by', 0, none⟩ = some (.int .i64 A.v.k) ∧ Z.cell? ⟨by', 1, none⟩ = some (.int .i64 A.v.a.x) ∧ Z.cell? ⟨by', 2, none⟩ = some (.int .i64 A.v.a.n) ∧ Z.cell? ⟨by', 3, none⟩ = some (.string A.v.a.t) ∧ Z.cell? ⟨by', 4, none⟩ = some (.string A.v.a.y) ∧ Z.cell? ⟨by', 5, none⟩ = some (.slice (some ⟨q1, 0, none⟩) A.m1 A.m1) ∧ Z.cell? ⟨by', 6, none⟩ = some (.slice (some ⟨q2, 0, none⟩) A.m2 A.m2) ∧ Z.cell? ⟨w.heap.size + 1, 0, none⟩ = some (.int .i64 A.v.k) ∧ Z.cell? ⟨w.heap.size + 1, 1, none⟩ = some (.int .i64 A.v.a.x) ∧ Z.cell? ⟨w.heap.size + 1, 2, none⟩ = some (.int .i64 A.v.a.n) ∧ Z.cell? ⟨w.heap.size + 1, 3, none⟩ = some (.string A.v.a.t) ∧ Z.cell? ⟨w.heap.size + 1, 4, none⟩ = some (.string A.v.a.y) ∧ Z.cell? ⟨w.heap.size + 1, 5, none⟩ = some (.slice A.e1 A.m1 A.d1) ∧ Z.cell? ⟨w.heap.size + 1, 6, none⟩ = some (.slice A.e2 A.m2 A.d2))) := hide (fun Z h x => ⟨x.u.at rfl, x.u.at rfl, x.u.at rfl, x.u.at rfl, x.u.at rfl, x.u.at rfl, x.u.at rfl, h.u.at rfl, h.u.at rfl, h.u.at rfl, h.u.at rfl, h.u.at rfl, h.u.at rfl, h.u.at rfl⟩)
  have qv := hide (qtV (unhide ZS) (unhide G0))
  go_region_held3 (fun Z => Z.cell? ⟨by', 0, none⟩ = some (.int .i64 A.v.k) ∧ Z.cell? ⟨by', 1, none⟩ = some (.int .i64 A.v.a.x) ∧ Z.cell? ⟨by', 2, none⟩ = some (.int .i64 A.v.a.n) ∧ Z.cell? ⟨by', 3, none⟩ = some (.string A.v.a.t) ∧ Z.cell? ⟨by', 4, none⟩ = some (.string A.v.a.y) ∧ Z.cell? ⟨by', 5, none⟩ = some (.slice (some ⟨q1, 0, none⟩) A.m1 A.m1) ∧ Z.cell? ⟨by', 6, none⟩ = some (.slice (some ⟨q2, 0, none⟩) A.m2 A.m2) ∧ Z.cell? ⟨w.heap.size + 1, 0, none⟩ = some (.int .i64 A.v.k) ∧ Z.cell? ⟨w.heap.size + 1, 1, none⟩ = some (.int .i64 A.v.a.x) ∧ Z.cell? ⟨w.heap.size + 1, 2, none⟩ = some (.int .i64 A.v.a.n) ∧ Z.cell? ⟨w.heap.size + 1, 3, none⟩ = some (.string A.v.a.t) ∧ Z.cell? ⟨w.heap.size + 1, 4, none⟩ = some (.string A.v.a.y) ∧ Z.cell? ⟨w.heap.size + 1, 5, none⟩ = some (.slice A.e1 A.m1 A.d1) ∧ Z.cell? ⟨w.heap.size + 1, 6, none⟩ = some (.slice A.e2 A.m2 A.d2))
    (first
      | exact unhide CC _ (unhide G0) (unhide H0)
      | exact unhide CC _ (unhide G2) (unhide H2)
      | exact unhide CC _ (unhide G1) (unhide H1))
    (first
      | (go_at_call 9; (with_reducible refine (unhide qv).mono ?_); rintro e w17 ⟨⟨g1, g2, rfl, cv1⟩, hb17⟩; have G1 := hide ((unhide G0).keep hb17); have H1 := hide ((unhide H0).keep hb17); have qe := hide (V.eqValue_same A.v (some ⟨q1, 0, none⟩) (some ⟨q2, 0, none⟩) (some ⟨g1, 0, none⟩) (some ⟨g2, 0, none⟩) A.m1 A.m1 A.m2 A.m2 A.m1 A.m1 A.m2 A.m2 w17 (unhide HO).m1 (unhide HO).m2 (unhide H1).pv.i (unhide H1).pv.n cv1.i cv1.n); clear hb17 cv1)
      | (go_at_call 13; (with_reducible refine (unhide qe).mono ?_); rintro e w18 ⟨rfl, hb18⟩; have G2 := hide ((unhide G1).keep hb18); have H2 := hide ((unhide H1).keep hb18); clear hb18))
  go_wp2_with fail
  go_ret
  exact ⟨rfl, (unhide G2).hb⟩
end Go.Proofs.YtdflnjjomljgmaaGreatDoor.D
