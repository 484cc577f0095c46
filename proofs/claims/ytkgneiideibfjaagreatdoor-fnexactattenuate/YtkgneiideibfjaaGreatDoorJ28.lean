/- KGd, KGf, one behind the other. -/
import Derived.Test.YtkgneiideibfjaaGreatDoorRTer
import Derived.Test.YtkgneiideibfjaaGreatDoorJ25
import Derived.Deep.Cut
import Derived.Test.YtkgneiideibfjaaGreatDoorJ27
/- What the laws of capabilities want of one: sz, to, eq, what came in. -/
namespace Go.Proofs.YtkgneiideibfjaaGreatDoor.D
set_option maxRecDepth 20000
open Go.ChangeShapes Go.WideShapes Go.RowKit Go.Joins

abbrev cpV (id : ByteArray) (at' ag : Option Addr) (lt ct lg cg : Nat) : Value := .agg #[.string id, .slice at' lt ct, .slice ag lg cg]
abbrev cpC (id : ByteArray) (at' ag : Option Addr) (lt ct lg cg : Nat) : Array Value := #[.string id, .slice at' lt ct, .slice ag lg cg]
def SzR (len : Nat) (q : Int) (e : Ending) : Prop := ∃ m : Int, -1 ≤ m ∧ m ≤ q ∧ (0 ≤ m → (len : Int) ≤ q) ∧ e = .returned (.int .i64 m)
theorem szByteS_any (a : Option Addr) (len cap : Nat) (q : Int) (w : World) (h0 : 0 ≤ q) (h1 : q ≤ 1048576) (hl : len ≤ maxLen) :
    Calls Tryz.prog 14 #[.slice a len cap, .int .i64 q] w fun e w' => SzR len q e ∧ w = w' := by
  unfold maxLen at hl
  by_cases hlen : q < (len : Int)
  · go_enter Tryz.func14, Tryz.ntmps14
    go_wp2
    go_ret
    exact ⟨⟨-1, by omega, by omega, by omega, rfl⟩, rfl⟩
  · have d1 : decide (q - (len : Int) < 0) = false := by simp; omega
    go_enter Tryz.func14, Tryz.ntmps14
    go_wp2
    go_ret
    exact ⟨⟨q - len, by omega, by omega, fun _ => by omega, rfl⟩, rfl⟩
set_option maxHeartbeats 1000000 in
theorem szCap_any (id : ByteArray) (at' ag : Option Addr) (lt ct lg cg : Nat) (T : List V.CavTermT) (q : Int) (w : World) (h0 : 0 ≤ q) (h1 : q ≤ 1048576) (hid : id.size ≤ maxLen) (hl : lt ≤ maxLen) (hlg : lg ≤ maxLen) (hs : V.SlCavTerm w at' lt T) (ok : ∀ x ∈ T, V.CavTermT.Ok x) :
    Calls Tryz.prog 4 #[cpV id at' ag lt ct lg cg, .int .i64 q] w fun e w' => (∃ m : Int, -1 ≤ m ∧ m ≤ q ∧ (0 ≤ m → id.size ≤ 1048576 ∧ lt ≤ 1048576 ∧ lg ≤ 1048576) ∧ e = .returned (.int .i64 m)) ∧ Below w.heap.size w w' := by
  obtain ⟨W, hW⟩ : ∃ W, W = w.alloc (.cells (cpC id at' ag lt ct lg cg) 25) := ⟨_, rfl⟩
  have B := hide (show Below w.heap.size w W by rw [hW]; exact bAl (Below.refl _ _) _)
  have R := hide (show RowIs W w.heap.size (cpC id at' ag lt ct lg cg) 25 by rw [hW]; exact RowIs.new _ _ _)
  have HW := hide hW.symm
  have q1 := hide (fun q h0 h1 => V.szCavTermS_any at' lt ct T q W h0 h1 hl (hs.keep (unhide B)) ok)
  have q2 := hide (fun q w h0 h1 => szByteS_any ag lg cg q w h0 h1 hlg)
  unfold maxLen at hid
  clear hW hs ok hl hlg
  have x0 := (unhide R).at (o := 0) (v := .string id) rfl
  have x1 := (unhide R).at (o := 1) (v := .slice at' lt ct) rfl
  by_cases g0 : q < (id.size : Int)
  · go_enter Tryz.func4, Tryz.ntmps4
    go_wp2_with fail
    go_ret
    exact ⟨⟨-1, by omega, by omega, by omega, rfl⟩, bAl (Below.refl _ _) _⟩
  go_enter Tryz.func4, Tryz.ntmps4
  go_wp2_with fail
  rw [unhide HW]
  clear x0 x1 HW
  refine (unhide q1 _ (by omega) (by omega)).mono ?_
  rintro e w1 ⟨⟨m1, m1a, m1b, m1c, rfl⟩, hb1⟩
  have R1 := hide ((unhide R).keep hb1)
  have B1 := hide (bTr (unhide B) hb1)
  have x2 := (unhide R1).at (o := 2) (v := .slice ag lg cg) rfl
  clear hb1 q1 R B
  by_cases g1 : m1 < 0
  · go_wp2_with fail
    go_ret
    exact ⟨⟨-1, by omega, by omega, by omega, rfl⟩, unhide B1⟩
  go_wp2_with fail
  refine (unhide q2 _ _ (by omega) (by omega)).mono ?_
  rintro e w2 ⟨⟨m2, m2a, m2b, m2c, rfl⟩, rfl⟩
  by_cases g2 : m2 < 0
  · go_wp2_with fail
    go_ret
    exact ⟨⟨-1, by omega, by omega, by omega, rfl⟩, unhide B1⟩
  go_wp2_with fail
  go_ret
  exact ⟨⟨m2, by omega, by omega, by omega, rfl⟩, unhide B1⟩
theorem put4 {w3 : World} {o r g : Nat} {C : Array Value} {T : TypeId} (h : RowIs w3 g C T) (ho : g ≠ o) (hr : g ≠ r) (x a b c : Value) :
    RowIs ((((w3.setCell ⟨o, 2, none⟩ x).setCell ⟨r, 0, none⟩ a).setCell ⟨r, 1, none⟩ b).setCell ⟨r, 2, none⟩ c) g C T :=
  ((((But.refl r _).set a).set b).set c).row (((But.refl o w3).set x).row h ho) hr
theorem put4B {w w3 : World} {o r : Nat} (h : Below w.heap.size w w3) (ho : w.heap.size ≤ o) (hr : w.heap.size ≤ r) (x a b c : Value) :
    Below w.heap.size w ((((w3.setCell ⟨o, 2, none⟩ x).setCell ⟨r, 0, none⟩ a).setCell ⟨r, 1, none⟩ b).setCell ⟨r, 2, none⟩ c) :=
  (((h.setCell ho _).setCell hr _).setCell hr _).setCell hr _
theorem term_same {w w' : World} {b off : Nat} {C : Array Value} {t : TypeId} {l : List V.CavTermT} (h : V.CavTermRow w b off l) (r : RowIs w b C t) (r' : RowIs w' b C t) : V.CavTermRow w' b off l :=
  ⟨r'.lt, fun i hi => by rw [r'.cell, ← r.cell]; exact h.c0 i hi, fun i hi => by rw [r'.cell, ← r.cell]; exact h.c1 i hi, fun i hi => by rw [r'.cell, ← r.cell]; exact h.c2 i hi, fun i hi => by rw [r'.cell, ← r.cell]; exact h.c3 i hi, fun i hi => by rw [r'.cell, ← r.cell]; exact h.c4 i hi, fun i hi => by rw [r'.cell, ← r.cell]; exact h.c5 i hi, fun i hi => by rw [r'.cell, ← r.cell]; exact h.c6 i hi⟩
set_option maxHeartbeats 2000000 in
theorem toCap_any (id : ByteArray) (at' ag : Option Addr) (lt ct lg cg : Nat) (T : List V.CavTermT) (G : List UInt8) (w : World) (hl : lt ≤ 1048576) (hlg : lg ≤ 1048576) (hs : V.SlCavTerm w at' lt T) (hg : SlB w w.heap.size ag lg G) :
    Calls Tryz.prog 7 #[cpV id at' ag lt ct lg cg] w fun e w' => (∃ g1 g2 C, e = .returned (cpV id (some ⟨g1, 0, none⟩) (some ⟨g2, 0, none⟩) lt lt lg lg) ∧ RowIs w' g1 C 39 ∧ C.size = lt * 7 ∧ V.CavTermRow w' g1 0 T ∧ RowIs w' g2 (cellsOf G) 5 ∧ w.heap.size ≤ g1 ∧ g1 < g2) ∧ Below w.heap.size w w' := by
  obtain ⟨W, hW⟩ : ∃ W, W = ((w.alloc (.cells (cpC id at' ag lt ct lg cg) 25)).alloc (.cells #[.string ⟨#[]⟩, .slice none 0 0, .slice none 0 0] 34)).alloc (.cells #[.string id, .slice none 0 0, .slice none 0 0] 34) := ⟨_, rfl⟩
  have zW : W.heap.size = w.heap.size + 1 + 1 + 1 := by rw [hW]; simp
  have B0 : Below w.heap.size w W := by rw [hW]; exact bAl (bAl (bAl (Below.refl _ _) _) _) _
  have Rb : RowIs W w.heap.size (cpC id at' ag lt ct lg cg) 25 := by
    rw [hW]; exact ((RowIs.new w _ _).keep (bAl (Below.refl _ _) _)).keep (bAl (Below.refl _ _) _)
  have Rr : RowIs W (w.heap.size + 1) #[.string ⟨#[]⟩, .slice none 0 0, .slice none 0 0] 34 := by
    rw [hW]
    have := (RowIs.new (w.alloc (.cells (cpC id at' ag lt ct lg cg) 25)) #[.string ⟨#[]⟩, .slice none 0 0, .slice none 0 0] 34).keep (bAl (Below.refl _ _) (.cells #[.string id, .slice none 0 0, .slice none 0 0] 34))
    simpa using this
  have Ro : RowIs W (w.heap.size + 1 + 1) #[.string id, .slice none 0 0, .slice none 0 0] 34 := by
    rw [hW]
    have := RowIs.new ((w.alloc (.cells (cpC id at' ag lt ct lg cg) 25)).alloc (.cells #[.string ⟨#[]⟩, .slice none 0 0, .slice none 0 0] 34)) #[.string id, .slice none 0 0, .slice none 0 0] 34
    simpa using this
  have S1 := hide (hs.keep B0)
  have HB := hide B0
  have H2 := hide hg
  have E2 := hide hg.1
  have HW := hide hW.symm
  have HRb := hide Rb
  have HRr := hide Rr
  have HRo := hide Ro
  have HZ := hide zW
  clear hs hg hW B0 Rb Rr Ro zW
  go_enter Tryz.func7, Tryz.ntmps7
  go_wp2_with fail
  rw [unhide HW]
  refine (V.toCavTermS_own at' lt ct T W hl (unhide S1)).mono ?_
  rintro e w1 ⟨rfl, ⟨C1, hr1, hz1, hw1⟩, hb1⟩
  have R1 := hide (show RowIs w1 W.heap.size C1 39 from hr1)
  have W1 := hide hw1
  have Z1 := hide hz1
  have Rb1 := (unhide HRb).keep hb1
  have Ro1 := (unhide HRo).keep hb1
  have Rr1 := hide ((unhide HRr).keep hb1)
  have x2 := Rb1.at (o := 2) (v := .slice ag lg cg) rfl
  have xz := Rb1.lt
  have o0 := Ro1.at (o := 0) (v := .string id) rfl
  have o1 := Ro1.at (o := 1) (v := .slice none 0 0) rfl
  have o2 := Ro1.at (o := 2) (v := .slice none 0 0) rfl
  have oz := Ro1.lt
  have f0 := Ro1.froz 0
  have f1 := Ro1.froz 1
  have f2 := Ro1.froz 2
  obtain ⟨g1, hg1⟩ : ∃ g, g = W.heap.size := ⟨_, rfl⟩
  rw [← hg1] at R1 W1 ⊢
  obtain ⟨W2, hW2⟩ : ∃ W', W' = w1.setCell ⟨w.heap.size + 1 + 1, 1, none⟩ (.slice (some ⟨g1, 0, none⟩) lt lt) := ⟨_, rfl⟩
  have But2 : But (w.heap.size + 1 + 1) w1 W2 := by rw [hW2]; exact (But.refl _ _).set _
  have B2 := hide (show Below w.heap.size w W2 from (bTr (unhide HB) hb1).trans (But2.below (by omega) (by have := hb1.size; have := unhide HZ; omega)))
  have Ro2 := hide (show RowIs W2 (w.heap.size + 1 + 1) #[.string id, .slice (some ⟨g1, 0, none⟩) lt lt, .slice none 0 0] 34 by rw [hW2]; exact Ro1.set 1 _)
  have Rr2 := hide (But2.row (unhide Rr1) (by omega))
  have R12 := hide (But2.row (unhide R1) (by have := unhide HZ; omega))
  have W12 := hide (term_same (unhide W1) (unhide R1) (unhide R12))
  have S2 := hide (((unhide H2).keepB (unhide B2)).mono (unhide B2).size)
  have HW2 := hide hW2.symm
  have HG := hide (show w.heap.size + 1 + 1 < g1 by rw [hg1, unhide HZ]; omega)
  clear hW2 hg1 But2 hb1 hr1 hz1 hw1 Rb1 Ro1 Rr1 R1 W1 HRb HRo HRr HW S1
  go_wp2_with fail
  rw [unhide HW2]
  refine (toByteS_any ag lg cg G W2 hlg (unhide S2)).mono ?_
  rintro e w3 ⟨rfl, hr3, hb3⟩
  clear x2 xz o0 o1 o2 oz f0 f1 f2 HW2 S2
  have Ro3 := (unhide Ro2).keep hb3
  have Rr3 := (unhide Rr2).keep hb3
  have o0 := Ro3.at (o := 0) (v := .string id) rfl
  have o1 := Ro3.at (o := 1) (v := .slice (some ⟨g1, 0, none⟩) lt lt) rfl
  have o2 := Ro3.at (o := 2) (v := .slice none 0 0) rfl
  have oz := Ro3.lt
  have f2 := Ro3.froz 2
  have r0 := Rr3.at (o := 0) (v := .string ⟨#[]⟩) rfl
  have r1 := Rr3.at (o := 1) (v := .slice none 0 0) rfl
  have r2 := Rr3.at (o := 2) (v := .slice none 0 0) rfl
  have rz := Rr3.lt
  have h0 := Rr3.froz 0
  have h1 := Rr3.froz 1
  have h2 := Rr3.froz 2
  have R13 := hide ((unhide R12).keep hb3)
  have W13 := hide (term_same (unhide W12) (unhide R12) (unhide R13))
  have B3 := hide (bTr (unhide B2) hb3)
  have R3 := hide hr3
  have zo := hide (unhide R12).lt
  obtain ⟨g2, hg2⟩ : ∃ g, g = W2.heap.size := ⟨_, rfl⟩
  have HG2 := hide (show g1 < g2 by rw [hg2]; exact unhide zo)
  rw [← hg2] at R3 ⊢
  clear hg2 hb3 hr3 Ro3 Rr3 R12 Ro2 Rr2 B2 W12
  go_wp2_with fail
  have P1 := put4 (unhide R13) (o := w.heap.size + 1 + 1) (r := w.heap.size + 1) (by have := unhide HG; omega) (by have := unhide HG; omega) (.slice (some ⟨g2, 0, none⟩) lg lg) (.string id) (.slice (some ⟨g1, 0, none⟩) lt lt) (.slice (some ⟨g2, 0, none⟩) lg lg)
  have P2 := put4 (unhide R3) (o := w.heap.size + 1 + 1) (r := w.heap.size + 1) (by have := unhide HG; have := unhide HG2; omega) (by have := unhide HG; have := unhide HG2; omega) (.slice (some ⟨g2, 0, none⟩) lg lg) (.string id) (.slice (some ⟨g1, 0, none⟩) lt lt) (.slice (some ⟨g2, 0, none⟩) lg lg)
  have P3 := put4B (unhide B3) (o := w.heap.size + 1 + 1) (r := w.heap.size + 1) (by omega) (by omega) (.slice (some ⟨g2, 0, none⟩) lg lg) (.string id) (.slice (some ⟨g1, 0, none⟩) lt lt) (.slice (some ⟨g2, 0, none⟩) lg lg)
  exact bodyPost_ret (v := cpV id (some ⟨g1, 0, none⟩) (some ⟨g2, 0, none⟩) lt lt lg lg) (by simp [results, Tryz.results7, go_sem, r0, r1, r2]) rfl ⟨⟨g1, g2, C1, rfl, P1, unhide Z1, term_same (unhide W13) (unhide R13) P1, P2, by have := unhide HG; omega, unhide HG2⟩, P3⟩
set_option maxHeartbeats 1000000 in
theorem eqCap_same (id : ByteArray) (a1 a2 a3 a4 : Option Addr) (n1 c1 n2 c2 c3 c4 : Nat) (T : List V.CavTermT) (G : List UInt8) (w : World) (hl1 : n1 ≤ 1048576) (hl2 : n2 ≤ 1048576) (h1 : V.SlCavTerm w a1 n1 T) (h2 : SlB w w.heap.size a2 n2 G) (h3 : V.SlCavTerm w a3 n1 T) (h4 : SlB w w.heap.size a4 n2 G) :
    Calls Tryz.prog 10 #[cpV id a1 a2 n1 c1 n2 c2, cpV id a3 a4 n1 c3 n2 c4] w fun e w' => e = .returned (.bool true) ∧ Below w.heap.size w w' := by
  obtain ⟨W, hW⟩ : ∃ W, W = (w.alloc (.cells (cpC id a1 a2 n1 c1 n2 c2) 34)).alloc (.cells (cpC id a3 a4 n1 c3 n2 c4) 34) := ⟨_, rfl⟩
  have B0 : Below w.heap.size w W := by rw [hW]; exact bAl (bAl (Below.refl _ _) _) _
  have Ra : RowIs W w.heap.size (cpC id a1 a2 n1 c1 n2 c2) 34 := by
    rw [hW]; exact (RowIs.new w _ _).keep (bAl (Below.refl _ _) _)
  have Rb : RowIs W (w.heap.size + 1) (cpC id a3 a4 n1 c3 n2 c4) 34 := by
    rw [hW]
    have := RowIs.new (w.alloc (.cells (cpC id a1 a2 n1 c1 n2 c2) 34)) (cpC id a3 a4 n1 c3 n2 c4) 34
    simpa using this
  have q1 := hide (V.eqCavTermS_same a1 a3 n1 c1 n1 c3 T W (h1.keep B0) (h3.keep B0) (by unfold maxLen; omega))
  have S2 := hide ((h2.keep B0).mono B0.size)
  have S4 := hide ((h4.keep B0).mono B0.size)
  have HRa := hide Ra
  have HRb := hide Rb
  have HB := hide B0
  have HW := hide hW.symm
  have x0 := Ra.at (o := 0) (v := .string id) rfl
  have x1 := Ra.at (o := 1) (v := .slice a1 n1 c1) rfl
  have xz := Ra.lt
  have y0 := Rb.at (o := 0) (v := .string id) rfl
  have y1 := Rb.at (o := 1) (v := .slice a3 n1 c3) rfl
  have yz := Rb.lt
  clear h1 h2 h3 h4 hW Ra Rb B0
  go_enter Tryz.func10, Tryz.ntmps10
  go_upto_region 1 with fail
  rw [unhide HW]
  go_wp2_with fail
  refine (unhide q1).mono ?_
  rintro e w1 ⟨rfl, hb1⟩
  clear x0 x1 xz y0 y1 yz
  have Ra1 := (unhide HRa).keep hb1
  have Rb1 := (unhide HRb).keep hb1
  have x2 := Ra1.at (o := 2) (v := .slice a2 n2 c2) rfl
  have xz := Ra1.lt
  have y2 := Rb1.at (o := 2) (v := .slice a4 n2 c4) rfl
  have yz := Rb1.lt
  have q2 := hide (eqByteS_any a2 a4 n2 n2 c2 c4 G G w1 hl2 hl2 (((unhide S2).keep hb1).mono hb1.size) (((unhide S4).keep hb1).mono hb1.size))
  rw [decide_eq_true (rfl : G = G)] at q2
  have B1 := hide (bTr (unhide HB) hb1)
  clear Ra1 Rb1 HRa HRb hb1 S2 S4 q1 HW
  go_wp2_with fail
  refine (unhide q2).mono ?_
  rintro e w2 ⟨rfl, hb2⟩
  clear x2 xz y2 yz
  go_wp2_with fail
  go_ret
  exact ⟨rfl, bTr (unhide B1) hb2⟩
section
variable {H : Type} {enc : TypeId × Value → H} {w : World} {base : Nat} {sp : Nat → Bool} {held : Bool}
theorem came_bytes {fuel : Nat} {v : Value} {x : DataW H × List MemPlace} (h : DataW.trod enc Tryz.prog w base sp held fuel 23 [v] = some x) : ∃ (a : Option Addr) (len cap : Nat) (l : List UInt8), v = .slice a len cap ∧ SlB w w.heap.size a len l ∧ len ≤ maxLen := by
  rcases open_ints Tryz.underlying23 Tryz.underlying5 (by kernel_rfl) h with ⟨hcs, _⟩ | ⟨x, l, c, zs, hcs, _, hl, hm, hz, _, hcell, hwz⟩
  · simp at hcs
    subst hcs
    exact ⟨none, 0, 0, [], rfl, ⟨rfl, .inl rfl⟩, Nat.zero_le _⟩
  · simp at hcs
    subst hcs
    obtain ⟨⟨l', hs⟩, h1, h2⟩ := bytes_in (w := w) (a := some x) (len := l) (cap := zs.length) (zs := zs) (.inr ⟨x, rfl, by rw [hz]; split <;> omega, by rw [hz]; split <;> omega, rfl, hcell, hwz⟩)
    exact ⟨_, _, _, l', rfl, hs, Nat.le_trans h1 h2⟩
theorem came_terms {n : Nat} {v : Value} {x : DataW H × List MemPlace} (h : DataW.trod enc Tryz.prog w base sp held n 22 [v] = some x) : ∃ (a : Option Addr) (len cap : Nat) (T : List V.CavTermT), v = .slice a len cap ∧ V.SlCavTerm w a len T ∧ (∀ q ∈ T, V.CavTermT.Ok q) ∧ len ≤ maxLen := by
  have hv : ∃ (a : Option Addr) (len cap : Nat), v = .slice a len cap := by
    rcases Go.Deep.open_slice Tryz.underlying22 h with ⟨hcs, _⟩ | ⟨a', len', cap', m, n', D, Pl, hcs, _⟩
    · simp at hcs; exact ⟨_, _, _, hcs⟩
    · simp at hcs; exact ⟨_, _, _, hcs⟩
  obtain ⟨a, len, cap, rfl⟩ := hv
  obtain ⟨l, h1, h2, h3⟩ := V.reads_CavTerm h
  exact ⟨a, len, cap, l, rfl, h1, h2, h3⟩
set_option maxRecDepth 100000 in
theorem came_Cap {r : Reach} {b0 : Nat} {v0 : Value} {d : DataW H} {p : List MemPlace} (hv : Value.okWide Tryz.prog w r b0 25 v0) (h : DataW.Trod enc Tryz.prog w base sp held 25 v0 d p) :
    ∃ (id : ByteArray) (a1 a2 : Option Addr) (n1 c1 n2 c2 : Nat) (T : List V.CavTermT) (G : List UInt8), v0 = cpV id a1 a2 n1 c1 n2 c2 ∧ id.size ≤ maxLen ∧ V.SlCavTerm w a1 n1 T ∧ (∀ q ∈ T, V.CavTermT.Ok q) ∧ n1 ≤ maxLen ∧ SlB w w.heap.size a2 n2 G ∧ n2 ≤ maxLen := by
  obtain ⟨c0, c1, c2, y0, y1, y2, m, rfl, _, _, g0, g1, g2⟩ := open_agg3 Tryz.underlying25 (by kernel_rfl) (by kernel_rfl) hv h
  obtain ⟨b, q0, _, wb⟩ := DataW.trod_string Tryz.underlying9 g0
  obtain ⟨a1, n1, k1, l, rfl, s1, o1, e1⟩ := came_terms g1
  obtain ⟨a2, n2, k2, l2, rfl, s2, e2⟩ := came_bytes g2
  simp at q0
  subst q0
  exact ⟨b, a1, a2, n1, k1, n2, k2, l, l2, rfl, wb, s1, o1, e1, s2, e2⟩
end
end Go.Proofs.YtkgneiideibfjaaGreatDoor.D
/- Marks of a capability. -/
namespace Go.Proofs.YtkgneiideibfjaaGreatDoor.D
set_option maxRecDepth 20000
open Go.RowKit
set_option maxHeartbeats 400000 in
theorem mark_big (g n cap : Nat) (C : Array Value) (k : Int) (w : World) (hn : n ≤ 1048576) (hk : 0 ≤ k) (hk2 : k ≤ 100000000) (hC : n ≤ C.size) (hr : RowIs w g C 5) :
    Calls Tryz.prog 30 #[.slice (some ⟨g, 0, none⟩) n cap, .int .i64 k] w fun e w' => e = .returned (.int .i64 (k + n)) ∧ (∃ C', C'.size = C.size ∧ MarkedTo C' k n ∧ RowIs w' g C' 5) ∧ But g w w' := by
  have HR := hide hr
  have HC := hide hC
  clear hr hC
  go_enter Tryz.func30, Tryz.ntmps30
  go_wp2_with fail
  go_loopw [1, 5] (fun q i w' => ∃ (j : Nat) (C' : Array Value), j ≤ n ∧ i = .int .i64 j ∧ q = .int .i64 (k + j) ∧ Hid (C'.size = C.size) ∧ Hid (MarkedTo C' k j) ∧ Hid (RowIs w' g C' 5) ∧ Hid (But g w w')) (fun _ i _ => n - (intOf i).toNat)
  case atStart => exact ⟨0, C, Nat.zero_le _, rfl, by simp, hide rfl, hide (fun i hi => absurd hi (Nat.not_lt_zero _)), HR, hide (But.refl _ _)⟩
  case round =>
    obtain ⟨j, C', hj, rfl, rfl, hsz, hM, hr', hbut⟩ := hrel
    by_cases hlt : j < n
    · have hjC : j < C'.size := by rw [unhide hsz]; exact Nat.lt_of_lt_of_le hlt (unhide HC)
      have fr := (unhide hr').froz j
      have c1 := (unhide hr').at (o := j) (v := C'[j]) (by simp)
      have hM' := hide ((unhide hM).set hjC)
      generalize C'[j] = D at c1
      go_wp2_with fail
      exact ⟨⟨j + 1, C'.setIfInBounds j (markV k j), by omega, by go_num, by simp only [Value.int.injEq, true_and]; omega, hide (by rw [Array.size_setIfInBounds]; exact unhide hsz), hM', hide ((unhide hr').set j _), hide ((unhide hbut).set _)⟩, by simp [intOf]; omega⟩
    · go_wp2_with fail
      go_ret
      have e : j = n := by omega
      subst e
      exact ⟨rfl, ⟨C', unhide hsz, unhide hM, unhide hr'⟩, unhide hbut⟩

set_option maxHeartbeats 400000 in
theorem held_big (g n cap : Nat) (C : Array Value) (k : Int) (w : World) (hn : n ≤ 1048576) (hk : 0 ≤ k) (hk2 : k ≤ 100000000) (hM : MarkedTo C k n) (hr : RowIs w g C 5) :
    Calls Tryz.prog 32 #[.slice (some ⟨g, 0, none⟩) n cap, .int .i64 k] w fun e w' => e = .returned (.int .i64 (k + n)) ∧ w = w' := by
  have HR := hide hr
  have HM := hide hM
  clear hr hM
  go_enter Tryz.func32, Tryz.ntmps32
  go_wp2_with fail
  go_loop [1, 5] (fun q i => ∃ (j : Nat), j ≤ n ∧ i = .int .i64 j ∧ q = .int .i64 (k + j)) (fun _ i => n - (intOf i).toNat)
  case atStart => exact ⟨0, Nat.zero_le _, rfl, by simp⟩
  case round =>
    obtain ⟨j, hj, rfl, rfl⟩ := hrel
    by_cases hlt : j < n
    · have c1 := (unhide HR).at (unhide HM j hlt)
      unfold markV at c1
      go_wp2_with fail
      exact ⟨⟨j + 1, by omega, by go_num, by simp only [Value.int.injEq, true_and]; omega⟩, by simp [intOf]; omega⟩
    · go_wp2_with fail
      go_ret
      have e : j = n := by omega
      subst e
      exact ⟨rfl, rfl⟩
theorem markTerms_nil (k : Int) (w : World) : Calls Tryz.prog 29 #[.slice none 0 0, .int .i64 k] w fun e w' => e = .returned (.int .i64 k) ∧ w = w' := by
  go_enter Tryz.func29, Tryz.ntmps29
  go_wp2_with fail
  go_loopw [1, 5] (fun q i w' => i = .int .i64 0 ∧ q = .int .i64 k ∧ w = w') (fun _ _ _ => 0)
  case atStart => exact ⟨rfl, rfl, rfl⟩
  case round =>
    obtain ⟨rfl, rfl, rfl⟩ := hrel
    go_wp2_with fail
    go_ret
    exact ⟨rfl, rfl⟩
theorem heldTerms_nil (k : Int) (w : World) : Calls Tryz.prog 31 #[.slice none 0 0, .int .i64 k] w fun e w' => e = .returned (.int .i64 k) ∧ w = w' := by
  go_enter Tryz.func31, Tryz.ntmps31
  go_wp2_with fail
  go_loopw [1, 5] (fun q i w' => i = .int .i64 0 ∧ q = .int .i64 k ∧ w = w') (fun _ _ _ => 0)
  case atStart => exact ⟨rfl, rfl, rfl⟩
  case round =>
    obtain ⟨rfl, rfl, rfl⟩ := hrel
    go_wp2_with fail
    go_ret
    exact ⟨rfl, rfl⟩

theorem markBytes_nil (k : Int) (w : World) : Calls Tryz.prog 30 #[.slice none 0 0, .int .i64 k] w fun e w' => e = .returned (.int .i64 k) ∧ w = w' := by
  go_enter Tryz.func30, Tryz.ntmps30
  go_wp2_with fail
  go_loopw [1, 5] (fun q i w' => i = .int .i64 0 ∧ q = .int .i64 k ∧ w = w') (fun _ _ _ => 0)
  case atStart => exact ⟨rfl, rfl, rfl⟩
  case round =>
    obtain ⟨rfl, rfl, rfl⟩ := hrel
    go_wp2_with fail
    go_ret
    exact ⟨rfl, rfl⟩
theorem heldBytes_nil (k : Int) (w : World) : Calls Tryz.prog 32 #[.slice none 0 0, .int .i64 k] w fun e w' => e = .returned (.int .i64 k) ∧ w = w' := by
  go_enter Tryz.func32, Tryz.ntmps32
  go_wp2_with fail
  go_loopw [1, 5] (fun q i w' => i = .int .i64 0 ∧ q = .int .i64 k ∧ w = w') (fun _ _ _ => 0)
  case atStart => exact ⟨rfl, rfl, rfl⟩
  case round =>
    obtain ⟨rfl, rfl, rfl⟩ := hrel
    go_wp2_with fail
    go_ret
    exact ⟨rfl, rfl⟩
theorem But.of_grown {w w' : World} {g : Nat} (h : w.grownBy w' (some g)) : But g w w' := ⟨h.os, h.tape, h.output, h.size, fun k hk hn => h.block k hk (fun e => hn (by cases e; rfl))⟩
/-- A row that may be marked. -/
def RowV (w : World) (v : Value) (n : Nat) (e : TypeId) (size : Nat) : Prop := (v = .slice none 0 0 ∧ n = 0) ∨ ∃ g cap C, v = .slice (some ⟨g, 0, none⟩) n cap ∧ RowIs w g C e ∧ n * size ≤ C.size
theorem own_rowV {w : World} {base e size n : Nat} {v : Value} {xs : List Value} (h : w.ownsRow base e size v n xs) : RowV w v n e size := by
  rcases h.2 with ⟨h1, h2⟩ | ⟨g, cap, cur, h1, _, hh, h3, _, h5, _⟩
  · exact .inl ⟨h1, h2⟩
  · exact .inr ⟨g, cap, cur, h1, hh, by rw [h5]; exact Nat.mul_le_mul_right _ h3⟩
theorem RowV.keep {w w' : World} {v : Value} {n e size : Nat} (h : RowV w v n e size) (hb : Below w.heap.size w w') : RowV w' v n e size := h.imp_right fun ⟨g, cap, C, h1, h2, h3⟩ => ⟨g, cap, C, h1, h2.keep hb, h3⟩
def MkT (w : World) (v : Value) (s n : Nat) : Prop := (v = .slice none 0 0 ∧ n = 0) ∨ ∃ g cap C, v = .slice (some ⟨g, 0, none⟩) n cap ∧ RowIs w g C 39 ∧ V.MarkedCavTerm C s n
def MkB (w : World) (v : Value) (k : Int) (n : Nat) : Prop := (v = .slice none 0 0 ∧ n = 0) ∨ ∃ g cap C, v = .slice (some ⟨g, 0, none⟩) n cap ∧ RowIs w g C 5 ∧ MarkedTo C k n
theorem MkT.keep {w w' : World} {v : Value} {s n : Nat} (h : MkT w v s n) (hb : Below w.heap.size w w') : MkT w' v s n := h.imp_right fun ⟨g, cap, C, h1, h2, h3⟩ => ⟨g, cap, C, h1, h2.keep hb, h3⟩
theorem MkB.keep {w w' : World} {v : Value} {k : Int} {n : Nat} (h : MkB w v k n) (hb : Below w.heap.size w w') : MkB w' v k n := h.imp_right fun ⟨g, cap, C, h1, h2, h3⟩ => ⟨g, cap, C, h1, h2.keep hb, h3⟩
/-- All but two rows is kept. -/
structure Kp (w w' : World) (a b : Option Nat) : Prop where
  os : w'.os = w.os
  tape : w'.tape = w.tape
  output : w'.output = w.output
  size : w.heap.size ≤ w'.heap.size
  block : ∀ k, k < w.heap.size → some k ≠ a → some k ≠ b → w'.heap[k]? = w.heap[k]?
theorem Kp.of {w w' : World} (h : Below w.heap.size w w') (a b : Option Nat) : Kp w w' a b := ⟨h.os, h.tape, h.output, h.size, fun k hk _ _ => h.block k hk⟩
theorem Kp.trans {w x y : World} {a b : Option Nat} (h : Kp w x a b) (k : Kp x y a b) : Kp w y a b :=
  ⟨k.os.trans h.os, k.tape.trans h.tape, k.output.trans h.output, Nat.le_trans h.size k.size, fun i hi n1 n2 => (k.block i (Nat.lt_of_lt_of_le hi h.size) n1 n2).trans (h.block i hi n1 n2)⟩
theorem Kp.but1 {g : Nat} {w w' : World} (h : But g w w') (b : Option Nat) : Kp w w' (some g) b := ⟨h.os, h.tape, h.output, h.size, fun k hk n1 _ => h.block k hk (fun e => n1 (by rw [e]))⟩
theorem Kp.but2 {g : Nat} {w w' : World} (h : But g w w') (a : Option Nat) : Kp w w' a (some g) := ⟨h.os, h.tape, h.output, h.size, fun k hk _ n2 => h.block k hk (fun e => n2 (by rw [e]))⟩
theorem Kp.row {w w' : World} {a b : Option Nat} (h : Kp w w' a b) {k : Nat} {C : Array Value} {T : TypeId} (hr : RowIs w k C T) (n1 : some k ≠ a) (n2 : some k ≠ b) : RowIs w' k C T := by
  have hl := hr.lt
  unfold RowIs at *
  rw [h.block k hl n1 n2]; exact hr
theorem Kp.own {w w' : World} {a b : Option Nat} (h : Kp w w' a b) {base e size n : Nat} {v : Value} {xs : List Value} (ho : w.ownsRow base e size v n xs) (n1 : ∀ g, v.ownBlock = some g → some g ≠ a) (n2 : ∀ g, v.ownBlock = some g → some g ≠ b) : w'.ownsRow base e size v n xs := by
  refine ⟨ho.1, ho.2.imp_right ?_⟩
  rintro ⟨g, cap, cur, rfl, hg, hh, hc⟩
  exact ⟨g, cap, cur, rfl, hg, by rw [h.block g (Array.getElem?_eq_some_iff.1 hh).1 (n1 g rfl) (n2 g rfl)]; exact hh, hc⟩
theorem Kp.below {w w' : World} {a b : Option Nat} (h : Kp w w' a b) {B : Nat} (hB : B ≤ w.heap.size) (n1 : ∀ g, a = some g → B ≤ g) (n2 : ∀ g, b = some g → B ≤ g) : Below B w w' :=
  ⟨h.os, h.tape, h.output, h.size, fun k hk => h.block k (Nat.lt_of_lt_of_le hk hB) (fun e => by have := n1 k e.symm; omega) (fun e => by have := n2 k e.symm; omega)⟩
set_option maxHeartbeats 1000000 in
theorem markTermsV (v : Value) (n s : Nat) (w : World) (hn : n ≤ 1048576) (h1 : 1 ≤ s) (h2 : s ≤ 100000000) (h : RowV w v n 39 7) :
    Calls Tryz.prog 29 #[v, .int .i64 s] w fun e w' => e = .returned (.int .i64 ((s + n * 7 : Nat) : Int)) ∧ MkT w' v s n ∧ ∀ b, Kp w w' v.ownBlock b := by
  rcases h with ⟨rfl, rfl⟩ | ⟨g, cap, C, rfl, hr, hz⟩
  · refine (markTerms_nil _ w).mono ?_
    rintro e w' ⟨rfl, rfl⟩
    exact ⟨by simp, .inl ⟨rfl, rfl⟩, fun b => Kp.of (Below.refl _ _) _ _⟩
  · refine (V.markCavTerm_row g n cap s C w hn h1 h2 hz hr).mono ?_
    rintro e w' ⟨rfl, ⟨C', hr', hM⟩, hg⟩
    exact ⟨rfl, .inr ⟨g, cap, C', rfl, hr', hM⟩, fun b => Kp.but1 (But.of_grown hg) b⟩
set_option maxHeartbeats 1000000 in
theorem heldTermsV (v : Value) (n s : Nat) (w : World) (hn : n ≤ 1048576) (h1 : 1 ≤ s) (h2 : s ≤ 100000000) (h : MkT w v s n) :
    Calls Tryz.prog 31 #[v, .int .i64 s] w fun e w' => e = .returned (.int .i64 ((s + n * 7 : Nat) : Int)) ∧ Below w.heap.size w w' := by
  rcases h with ⟨rfl, rfl⟩ | ⟨g, cap, C, rfl, hr, hM⟩
  · refine (heldTerms_nil _ w).mono ?_
    rintro e w' ⟨rfl, rfl⟩
    exact ⟨by simp, Below.refl _ _⟩
  · exact V.heldCavTerm_row g n cap s C w hn h1 h2 hr hM
set_option maxHeartbeats 1000000 in
theorem markBytesV (v : Value) (n : Nat) (k : Int) (w : World) (hn : n ≤ 1048576) (h1 : 0 ≤ k) (h2 : k ≤ 100000000) (h : RowV w v n 5 1) :
    Calls Tryz.prog 30 #[v, .int .i64 k] w fun e w' => e = .returned (.int .i64 (k + n)) ∧ MkB w' v k n ∧ ∀ a, Kp w w' a v.ownBlock := by
  rcases h with ⟨rfl, rfl⟩ | ⟨g, cap, C, rfl, hr, hz⟩
  · refine (markBytes_nil _ w).mono ?_
    rintro e w' ⟨rfl, rfl⟩
    exact ⟨by simp, .inl ⟨rfl, rfl⟩, fun b => Kp.of (Below.refl _ _) _ _⟩
  · refine (mark_big g n cap C k w hn h1 h2 (by omega) hr).mono ?_
    rintro e w' ⟨rfl, ⟨C', _, hM, hr'⟩, hg⟩
    exact ⟨rfl, .inr ⟨g, cap, C', rfl, hr', hM⟩, fun b => Kp.but2 hg b⟩
set_option maxHeartbeats 1000000 in
theorem heldBytesV (v : Value) (n : Nat) (k : Int) (w : World) (hn : n ≤ 1048576) (h1 : 0 ≤ k) (h2 : k ≤ 100000000) (h : MkB w v k n) :
    Calls Tryz.prog 32 #[v, .int .i64 k] w fun e w' => e = .returned (.int .i64 (k + n)) ∧ w = w' := by
  rcases h with ⟨rfl, rfl⟩ | ⟨g, cap, C, rfl, hr, hM⟩
  · refine (heldBytes_nil _ w).mono ?_
    rintro e w' ⟨rfl, rfl⟩
    exact ⟨by simp, rfl⟩
  · exact held_big g n cap C k w hn h1 h2 hM hr
theorem ne_blocks {w : World} {v1 v2 : Value} {n1 n2 z1 z2 : Nat} (h1 : RowV w v1 n1 39 z1) (h2 : RowV w v2 n2 5 z2) : ∀ g, v1.ownBlock = some g → v2.ownBlock ≠ some g := by
  intro g e1 e2
  rcases h1 with ⟨rfl, _⟩ | ⟨g1, c1, C1, rfl, r1, _⟩
  · cases e1
  · rcases h2 with ⟨rfl, _⟩ | ⟨g2, c2, C2, rfl, r2, _⟩
    · cases e2
    · simp only [Value.ownBlock, Option.some.injEq] at e1 e2
      subst e1 e2
      unfold RowIs at r1 r2
      rw [r1] at r2
      simp at r2
theorem rowV_lt {w : World} {v : Value} {n e size : Nat} (h : RowV w v n e size) : ∀ g, v.ownBlock = some g → g < w.heap.size := by
  intro g hg
  rcases h with ⟨rfl, _⟩ | ⟨g1, c1, C1, rfl, r1, _⟩
  · cases hg
  · simp only [Value.ownBlock, Option.some.injEq] at hg
    subst hg
    exact r1.lt
theorem slice_form {w : World} {v : Value} {n e size : Nat} (h : RowV w v n e size) : ∃ a cap, v = .slice a n cap := by
  rcases h with ⟨rfl, rfl⟩ | ⟨g, cap, C, rfl, _⟩
  · exact ⟨none, 0, rfl⟩
  · exact ⟨_, cap, rfl⟩
set_option maxHeartbeats 1000000 in
theorem markCapV (id : ByteArray) (v1 v2 : Value) (n1 n2 : Nat) (w : World) (h1 : RowV w v1 n1 39 7) (h2 : RowV w v2 n2 5 1) (z1 : n1 ≤ 1048576) (z2 : n2 ≤ 1048576) :
    Calls Tryz.prog 11 #[.agg #[.string id, v1, v2], .int .i64 1] w fun e w' => e = .returned (.int .i64 (((1 + n1 * 7 : Nat) : Int) + n2)) ∧ MkT w' v1 1 n1 ∧ MkB w' v2 ((1 + n1 * 7 : Nat) : Int) n2 ∧ Kp w w' v1.ownBlock v2.ownBlock := by
  have NB := hide (ne_blocks h1 h2)
  have LT1 := hide (rowV_lt h1)
  obtain ⟨a1, c1, rfl⟩ := slice_form h1
  obtain ⟨a2, c2, rfl⟩ := slice_form h2
  obtain ⟨W, hW⟩ : ∃ W, W = w.alloc (.cells #[.string id, .slice a1 n1 c1, .slice a2 n2 c2] 34) := ⟨_, rfl⟩
  have B := hide (show Below w.heap.size w W by rw [hW]; exact bAl (Below.refl _ _) _)
  have R := hide (show RowIs W w.heap.size #[.string id, .slice a1 n1 c1, .slice a2 n2 c2] 34 by rw [hW]; exact RowIs.new _ _ _)
  have HW := hide hW.symm
  have q1 := hide (markTermsV (.slice a1 n1 c1) n1 1 W z1 (by omega) (by omega) (h1.keep (unhide B)))
  have H2 := hide (h2.keep (unhide B))
  clear hW h1 h2
  have x1 := (unhide R).at (o := 1) (v := .slice a1 n1 c1) rfl
  have xz := (unhide R).lt
  go_enter Tryz.func11, Tryz.ntmps11
  go_wp2_with fail
  rw [unhide HW]
  refine (unhide q1).mono ?_
  rintro e w1 ⟨rfl, hM, hK⟩
  clear x1 xz HW q1
  obtain ⟨S, hS⟩ : ∃ S : Nat, S = 1 + n1 * 7 := ⟨_, rfl⟩
  have zS : S ≤ 100000000 := by omega
  have HS := hide hS
  rw [← hS]
  clear hS
  have M1 := hide hM
  have K1 := hide hK
  have R2 := hide (show RowV w1 (.slice a2 n2 c2) n2 5 1 from by
    rcases unhide H2 with h | ⟨g, cap, C, e, r, hz⟩
    · exact .inl h
    · refine .inr ⟨g, cap, C, e, (hK none).row r ?_ (by simp), hz⟩
      intro e2
      exact unhide NB g e2.symm (by rw [e]; rfl))
  have RC := hide ((hK none).row (unhide R) (fun e => by have := unhide LT1 w.heap.size e.symm; omega) (by simp))
  clear hM hK
  have q2 := hide (markBytesV (.slice a2 n2 c2) n2 (S : Int) w1 z2 (by omega) (by omega) (unhide R2))
  have x2 := (unhide RC).at (o := 2) (v := .slice a2 n2 c2) rfl
  have xz := (unhide RC).lt
  go_wp2_with fail
  refine (unhide q2).mono ?_
  rintro e w2 ⟨rfl, hM2, hK2⟩
  have M2 := hide hM2
  have K2 := hide hK2
  clear hM2 hK2 q2 x2 xz
  go_wp2_with fail
  go_ret
  have E := unhide HS
  subst E
  refine ⟨rfl, ?_, unhide M2, ((Kp.of (unhide B) _ _).trans (unhide K1 _)).trans (unhide K2 _)⟩
  rcases unhide M1 with h | ⟨g, cap, C, e, r, hM⟩
  · exact .inl h
  · exact .inr ⟨g, cap, C, e, (unhide K2 none).row r (by simp) (fun e2 => unhide NB g (by rw [e]; rfl) e2.symm), hM⟩
set_option maxHeartbeats 1000000 in
theorem heldCapV (id : ByteArray) (v1 v2 : Value) (n1 n2 : Nat) (w : World) (h1 : MkT w v1 1 n1) (h2 : MkB w v2 ((1 + n1 * 7 : Nat) : Int) n2) (z1 : n1 ≤ 1048576) (z2 : n2 ≤ 1048576) :
    Calls Tryz.prog 12 #[.agg #[.string id, v1, v2], .int .i64 1] w fun e w' => e = .returned (.int .i64 (((1 + n1 * 7 : Nat) : Int) + n2)) ∧ Below w.heap.size w w' := by
  obtain ⟨a1, c1, rfl⟩ : ∃ a c, v1 = .slice a n1 c := by
    rcases h1 with ⟨rfl, rfl⟩ | ⟨g, cap, C, rfl, _⟩
    · exact ⟨none, 0, rfl⟩
    · exact ⟨_, cap, rfl⟩
  obtain ⟨a2, c2, rfl⟩ : ∃ a c, v2 = .slice a n2 c := by
    rcases h2 with ⟨rfl, rfl⟩ | ⟨g, cap, C, rfl, _⟩
    · exact ⟨none, 0, rfl⟩
    · exact ⟨_, cap, rfl⟩
  obtain ⟨W, hW⟩ : ∃ W, W = w.alloc (.cells #[.string id, .slice a1 n1 c1, .slice a2 n2 c2] 34) := ⟨_, rfl⟩
  have B := hide (show Below w.heap.size w W by rw [hW]; exact bAl (Below.refl _ _) _)
  have R := hide (show RowIs W w.heap.size #[.string id, .slice a1 n1 c1, .slice a2 n2 c2] 34 by rw [hW]; exact RowIs.new _ _ _)
  have HW := hide hW.symm
  have q1 := hide (heldTermsV (.slice a1 n1 c1) n1 1 W z1 (by omega) (by omega) (h1.keep (unhide B)))
  have H2 := hide (h2.keep (unhide B))
  clear hW h1 h2
  have x1 := (unhide R).at (o := 1) (v := .slice a1 n1 c1) rfl
  have xz := (unhide R).lt
  go_enter Tryz.func12, Tryz.ntmps12
  go_wp2_with fail
  rw [unhide HW]
  refine (unhide q1).mono ?_
  rintro e w1 ⟨rfl, hb1⟩
  have R1 := hide ((unhide R).keep hb1)
  have B1 := hide (bTr (unhide B) hb1)
  have H3 := hide ((unhide H2).keep hb1)
  clear x1 xz HW q1 hb1 R B H2
  obtain ⟨S, hS⟩ : ∃ S : Nat, S = 1 + n1 * 7 := ⟨_, rfl⟩
  have zS : S ≤ 100000000 := by omega
  rw [← hS] at H3 ⊢
  have HS := hide hS
  clear hS
  have q2 := hide (heldBytesV (.slice a2 n2 c2) n2 (S : Int) w1 z2 (by omega) (by omega) (unhide H3))
  have x2 := (unhide R1).at (o := 2) (v := .slice a2 n2 c2) rfl
  have xz := (unhide R1).lt
  have n0 : ¬ (S : Int) < 0 := by omega
  go_wp2_with fail
  refine (unhide q2).mono ?_
  rintro e w2 ⟨rfl, rfl⟩
  clear q2 x2 xz
  have n3 : ¬ (S : Int) + (n2 : Int) < 0 := by omega
  go_wp2_with fail
  go_ret
  have E := unhide HS
  subst E
  exact ⟨rfl, unhide B1⟩
end Go.Proofs.YtkgneiideibfjaaGreatDoor.D
