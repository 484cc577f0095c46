/- What the law of PassCheck wants of what is stored. -/
import Derived.Test.YteoaglemkogdaaaDoorKPb
import Derived.Test.YteoaglemkogdaaaDoorDIn
import Derived.Test.YteoaglemkogdaaaDoorDLawKit
namespace Go.Proofs.YteoaglemkogdaaaDoor.D
set_option maxRecDepth 20000
open Go.ChangeShapes Go.WideShapes Go.RowKit Go.Joins

def SzR (len : Nat) (q : Int) (e : Ending) : Prop := ∃ m : Int, -1 ≤ m ∧ m ≤ q ∧ (0 ≤ m → (len : Int) ≤ q) ∧ e = .returned (.int .i64 m)
theorem szByteS_any (a : Option Addr) (len cap : Nat) (q : Int) (w : World) (h0 : 0 ≤ q) (h1 : q ≤ 1048576) (hl : len ≤ maxLen) :
    Calls Tryd.prog 19 #[.slice a len cap, .int .i64 q] w fun e w' => SzR len q e ∧ w = w' := by
  unfold maxLen at hl
  by_cases hlen : q < (len : Int)
  · go_enter Tryd.func19, Tryd.ntmps19
    go_wp2
    go_ret
    exact ⟨⟨-1, by omega, by omega, by omega, rfl⟩, rfl⟩
  · have d1 : decide (q - (len : Int) < 0) = false := by simp; omega
    go_enter Tryd.func19, Tryd.ntmps19
    go_wp2
    go_ret
    exact ⟨⟨q - len, by omega, by omega, fun _ => by omega, rfl⟩, rfl⟩
set_option maxHeartbeats 1000000 in
theorem szStored_any (a1 a2 : Option Addr) (n1 c1 n2 c2 : Nat) (n : Int) (q : Int) (w : World) (h0 : 0 ≤ q) (h1 : q ≤ 1048576) (hl1 : n1 ≤ maxLen) (hl2 : n2 ≤ maxLen) :
    Calls Tryd.prog 11 #[.agg #[.slice a1 n1 c1, .int .i64 n, .slice a2 n2 c2], .int .i64 q] w fun e w' => (∃ m : Int, -1 ≤ m ∧ m ≤ q ∧ (0 ≤ m → n1 ≤ 1048576 ∧ n2 ≤ 1048576) ∧ e = .returned (.int .i64 m)) ∧ Below w.heap.size w w' := by
  have q1 := hide (fun q w h0 h1 => szByteS_any a1 n1 c1 q w h0 h1 hl1)
  have q2 := hide (fun q w h0 h1 => szByteS_any a2 n2 c2 q w h0 h1 hl2)
  go_enter Tryd.func11, Tryd.ntmps11
  go_wp2_with fail
  refine (unhide q1 _ _ h0 h1).mono ?_
  rintro e w1 ⟨⟨m1, m1a, m1b, m1c, rfl⟩, rfl⟩
  by_cases g1 : m1 < 0
  · go_wp2_with fail
    go_ret
    exact ⟨⟨-1, by omega, by omega, by omega, rfl⟩, bAl (Below.refl _ _) _⟩
  go_wp2_with fail
  refine (unhide q2 _ _ (by omega) (by omega)).mono ?_
  rintro e w1 ⟨⟨m2, m2a, m2b, m2c, rfl⟩, rfl⟩
  by_cases g2 : m2 < 0
  · go_wp2_with fail
    go_ret
    exact ⟨⟨-1, by omega, by omega, by omega, rfl⟩, bAl (Below.refl _ _) _⟩
  go_wp2_with fail
  go_ret
  exact ⟨⟨m2, by omega, by omega, by omega, rfl⟩, bAl (Below.refl _ _) _⟩
theorem put4 {w3 : World} {o r g : Nat} {C : Array Value} {T : TypeId} (h : RowIs w3 g C T) (ho : g ≠ o) (hr : g ≠ r) (x a b c : Value) :
    RowIs ((((w3.setCell ⟨o, 2, none⟩ x).setCell ⟨r, 0, none⟩ a).setCell ⟨r, 1, none⟩ b).setCell ⟨r, 2, none⟩ c) g C T :=
  ((((But.refl r _).set a).set b).set c).row (((But.refl o w3).set x).row h ho) hr
theorem put4B {w w3 : World} {o r : Nat} (h : Below w.heap.size w w3) (ho : w.heap.size ≤ o) (hr : w.heap.size ≤ r) (x a b c : Value) :
    Below w.heap.size w ((((w3.setCell ⟨o, 2, none⟩ x).setCell ⟨r, 0, none⟩ a).setCell ⟨r, 1, none⟩ b).setCell ⟨r, 2, none⟩ c) :=
  (((h.setCell ho _).setCell hr _).setCell hr _).setCell hr _
def stoV (g1 n1 : Nat) (n : Int) (g2 n2 : Nat) : Value := .agg #[.slice (some ⟨g1, 0, none⟩) n1 n1, .int .i64 n, .slice (some ⟨g2, 0, none⟩) n2 n2]
set_option maxHeartbeats 1000000 in
theorem toStored_any (a1 a2 : Option Addr) (n1 c1 n2 c2 : Nat) (l m : List UInt8) (n : Int) (w : World) (hl1 : n1 ≤ 1048576) (hl2 : n2 ≤ 1048576) (h1 : SlB w w.heap.size a1 n1 l) (h2 : SlB w w.heap.size a2 n2 m) :
    Calls Tryd.prog 13 #[.agg #[.slice a1 n1 c1, .int .i64 n, .slice a2 n2 c2]] w fun e w' => (∃ g1 g2, e = .returned (stoV g1 n1 n g2 n2) ∧ SlB w' w'.heap.size (some ⟨g1, 0, none⟩) n1 l ∧ SlB w' w'.heap.size (some ⟨g2, 0, none⟩) n2 m) ∧ Below w.heap.size w w' := by
  obtain ⟨W, hW⟩ : ∃ W, W = ((w.alloc (.cells #[.slice a1 n1 c1, .int .i64 n, .slice a2 n2 c2] 29)).alloc (.cells #[.slice none 0 0, .int .i64 0, .slice none 0 0] 32)).alloc (.cells #[.slice none 0 0, .int .i64 0, .slice none 0 0] 32) := ⟨_, rfl⟩
  have zW : W.heap.size = w.heap.size + 1 + 1 + 1 := by rw [hW]; simp
  have B0 : Below w.heap.size w W := by rw [hW]; exact bAl (bAl (bAl (Below.refl _ _) _) _) _
  have Rb : RowIs W w.heap.size #[.slice a1 n1 c1, .int .i64 n, .slice a2 n2 c2] 29 := by
    rw [hW]; exact ((RowIs.new w _ _).keep (bAl (Below.refl _ _) _)).keep (bAl (Below.refl _ _) _)
  have Rr : RowIs W (w.heap.size + 1) #[.slice none 0 0, .int .i64 0, .slice none 0 0] 32 := by
    rw [hW]
    have := (RowIs.new (w.alloc (.cells #[.slice a1 n1 c1, .int .i64 n, .slice a2 n2 c2] 29)) #[.slice none 0 0, .int .i64 0, .slice none 0 0] 32).keep (bAl (Below.refl _ _) (.cells #[.slice none 0 0, .int .i64 0, .slice none 0 0] 32))
    simpa using this
  have Ro : RowIs W (w.heap.size + 1 + 1) #[.slice none 0 0, .int .i64 0, .slice none 0 0] 32 := by
    rw [hW]
    have := RowIs.new ((w.alloc (.cells #[.slice a1 n1 c1, .int .i64 n, .slice a2 n2 c2] 29)).alloc (.cells #[.slice none 0 0, .int .i64 0, .slice none 0 0] 32)) #[.slice none 0 0, .int .i64 0, .slice none 0 0] 32
    simpa using this
  have S1 := hide ((h1.keep B0).mono B0.size)
  have HB := hide B0
  have H2 := hide h2
  have E1 := hide h1.1
  have E2 := hide h2.1
  have HW := hide hW.symm
  have HRb := hide Rb
  have HRr := hide Rr
  have HRo := hide Ro
  have HZ := hide zW
  clear h1 h2 hW B0 Rb Rr Ro zW
  go_enter Tryd.func13, Tryd.ntmps13
  go_wp2_with fail
  rw [unhide HW]
  refine (toByteS_any a1 n1 c1 l W hl1 (unhide S1)).mono ?_
  rintro e w1 ⟨rfl, hr1, hb1⟩
  have R1 := hide hr1
  have Rb1 := (unhide HRb).keep hb1
  have Ro1 := (unhide HRo).keep hb1
  have Rr1 := hide ((unhide HRr).keep hb1)
  have x1 := Rb1.at (o := 1) (v := .int .i64 n) rfl
  have x2 := Rb1.at (o := 2) (v := .slice a2 n2 c2) rfl
  have xz := Rb1.lt
  have o0 := Ro1.at (o := 0) (v := .slice none 0 0) rfl
  have o1 := Ro1.at (o := 1) (v := .int .i64 0) rfl
  have o2 := Ro1.at (o := 2) (v := .slice none 0 0) rfl
  have oz := Ro1.lt
  have f0 := Ro1.froz 0
  have f1 := Ro1.froz 1
  have f2 := Ro1.froz 2
  obtain ⟨g1, hg1⟩ : ∃ g, g = W.heap.size := ⟨_, rfl⟩
  rw [← hg1] at R1 ⊢
  obtain ⟨W2, hW2⟩ : ∃ W', W' = (w1.setCell ⟨w.heap.size + 1 + 1, 0, none⟩ (.slice (some ⟨g1, 0, none⟩) n1 n1)).setCell ⟨w.heap.size + 1 + 1, 1, none⟩ (.int .i64 n) := ⟨_, rfl⟩
  have But2 : But (w.heap.size + 1 + 1) w1 W2 := by rw [hW2]; exact ((But.refl _ _).set _).set _
  have B2 := hide (show Below w.heap.size w W2 from (bTr (unhide HB) hb1).trans (But2.below (by omega) (by have := hb1.size; have := unhide HZ; omega)))
  have Ro2 := hide (show RowIs W2 (w.heap.size + 1 + 1) #[.slice (some ⟨g1, 0, none⟩) n1 n1, .int .i64 n, .slice none 0 0] 32 by rw [hW2]; exact (Ro1.set 0 _).set 1 _)
  have Rb2 := hide (But2.row Rb1 (by omega))
  have Rr2 := hide (But2.row (unhide Rr1) (by omega))
  have R12 := hide (But2.row (unhide R1) (by have := unhide HZ; omega))
  have S2 := hide (((unhide H2).keepB (unhide B2)).mono (unhide B2).size)
  have HW2 := hide hW2.symm
  have HG := hide (show w.heap.size + 1 + 1 < g1 by rw [hg1, unhide HZ]; omega)
  clear hW2 hg1 But2 hb1 hr1 Rb1 Ro1 Rr1 R1 HRb HRo HRr HW S1
  go_wp2_with fail
  rw [unhide HW2]
  refine (toByteS_any a2 n2 c2 m W2 hl2 (unhide S2)).mono ?_
  rintro e w3 ⟨rfl, hr3, hb3⟩
  clear x1 x2 xz o0 o1 o2 oz f0 f1 f2 HW2 S2
  have Ro3 := (unhide Ro2).keep hb3
  have Rr3 := (unhide Rr2).keep hb3
  have o0 := Ro3.at (o := 0) (v := .slice (some ⟨g1, 0, none⟩) n1 n1) rfl
  have o1 := Ro3.at (o := 1) (v := .int .i64 n) rfl
  have o2 := Ro3.at (o := 2) (v := .slice none 0 0) rfl
  have oz := Ro3.lt
  have f2 := Ro3.froz 2
  have r0 := Rr3.at (o := 0) (v := .slice none 0 0) rfl
  have r1 := Rr3.at (o := 1) (v := .int .i64 0) rfl
  have r2 := Rr3.at (o := 2) (v := .slice none 0 0) rfl
  have rz := Rr3.lt
  have h0 := Rr3.froz 0
  have h1 := Rr3.froz 1
  have h2 := Rr3.froz 2
  have R13 := hide ((unhide R12).keep hb3)
  have B3 := hide (bTr (unhide B2) hb3)
  have R3 := hide hr3
  have zo := hide (unhide Ro2).lt
  obtain ⟨g2, hg2⟩ : ∃ g, g = W2.heap.size := ⟨_, rfl⟩
  have HG2 := hide (show w.heap.size + 1 + 1 < g2 by rw [hg2]; exact unhide zo)
  rw [← hg2] at R3 ⊢
  clear hg2 hb3 hr3 Ro3 Rr3 R12 Ro2 Rr2 Rb2 B2
  go_wp2_with fail
  have P1 := put4 (unhide R13) (o := w.heap.size + 1 + 1) (r := w.heap.size + 1) (by have := unhide HG; omega) (by have := unhide HG; omega) (.slice (some ⟨g2, 0, none⟩) n2 n2) (.slice (some ⟨g1, 0, none⟩) n1 n1) (.int .i64 n) (.slice (some ⟨g2, 0, none⟩) n2 n2)
  have P2 := put4 (unhide R3) (o := w.heap.size + 1 + 1) (r := w.heap.size + 1) (by have := unhide HG2; omega) (by have := unhide HG2; omega) (.slice (some ⟨g2, 0, none⟩) n2 n2) (.slice (some ⟨g1, 0, none⟩) n1 n1) (.int .i64 n) (.slice (some ⟨g2, 0, none⟩) n2 n2)
  have P3 := put4B (unhide B3) (o := w.heap.size + 1 + 1) (r := w.heap.size + 1) (by omega) (by omega) (.slice (some ⟨g2, 0, none⟩) n2 n2) (.slice (some ⟨g1, 0, none⟩) n1 n1) (.int .i64 n) (.slice (some ⟨g2, 0, none⟩) n2 n2)
  refine bodyPost_ret (v := stoV g1 n1 n g2 n2) (by simp [results, Tryd.results13, go_sem, stoV, r0, r1, r2]) rfl ⟨⟨g1, g2, rfl, ?_, ?_⟩, P3⟩
  · have := slB_row P1 P1.lt
    rw [← unhide E1] at this
    exact this
  · have := slB_row P2 P2.lt
    rw [← unhide E2] at this
    exact this
set_option maxHeartbeats 1000000 in
theorem eqStored_same (a1 a2 a3 a4 : Option Addr) (n1 c1 n2 c2 c3 c4 : Nat) (l m : List UInt8) (n : Int) (w : World) (hl1 : n1 ≤ 1048576) (hl2 : n2 ≤ 1048576) (h1 : SlB w w.heap.size a1 n1 l) (h2 : SlB w w.heap.size a2 n2 m) (h3 : SlB w w.heap.size a3 n1 l) (h4 : SlB w w.heap.size a4 n2 m) :
    Calls Tryd.prog 15 #[.agg #[.slice a1 n1 c1, .int .i64 n, .slice a2 n2 c2], .agg #[.slice a3 n1 c3, .int .i64 n, .slice a4 n2 c4]] w fun e w' => e = .returned (.bool true) ∧ Below w.heap.size w w' := by
  obtain ⟨W, hW⟩ : ∃ W, W = (w.alloc (.cells #[.slice a1 n1 c1, .int .i64 n, .slice a2 n2 c2] 32)).alloc (.cells #[.slice a3 n1 c3, .int .i64 n, .slice a4 n2 c4] 32) := ⟨_, rfl⟩
  have B0 : Below w.heap.size w W := by rw [hW]; exact bAl (bAl (Below.refl _ _) _) _
  have Ra : RowIs W w.heap.size #[.slice a1 n1 c1, .int .i64 n, .slice a2 n2 c2] 32 := by
    rw [hW]; exact (RowIs.new w _ _).keep (bAl (Below.refl _ _) _)
  have Rb : RowIs W (w.heap.size + 1) #[.slice a3 n1 c3, .int .i64 n, .slice a4 n2 c4] 32 := by
    rw [hW]
    have := RowIs.new (w.alloc (.cells #[.slice a1 n1 c1, .int .i64 n, .slice a2 n2 c2] 32)) #[.slice a3 n1 c3, .int .i64 n, .slice a4 n2 c4] 32
    simpa using this
  have q1 := hide (eqByteS_any a1 a3 n1 n1 c1 c3 l l W hl1 hl1 ((h1.keep B0).mono B0.size) ((h3.keep B0).mono B0.size))
  rw [decide_eq_true (rfl : l = l)] at q1
  have S2 := hide ((h2.keep B0).mono B0.size)
  have S4 := hide ((h4.keep B0).mono B0.size)
  have HRa := hide Ra
  have HRb := hide Rb
  have HB := hide B0
  have HW := hide hW.symm
  have k : (n != n) = false := by simp
  clear h1 h2 h3 h4 hW Ra Rb B0
  go_enter Tryd.func15, Tryd.ntmps15
  go_wp2_with fail
  rw [unhide HW]
  refine (unhide q1).mono ?_
  rintro e w1 ⟨rfl, hb1⟩
  have Ra1 := (unhide HRa).keep hb1
  have Rb1 := (unhide HRb).keep hb1
  have x1 := Ra1.at (o := 1) (v := .int .i64 n) rfl
  have x2 := Ra1.at (o := 2) (v := .slice a2 n2 c2) rfl
  have xz := Ra1.lt
  have y1 := Rb1.at (o := 1) (v := .int .i64 n) rfl
  have y2 := Rb1.at (o := 2) (v := .slice a4 n2 c4) rfl
  have yz := Rb1.lt
  have q2 := hide (eqByteS_any a2 a4 n2 n2 c2 c4 m m w1 hl2 hl2 (((unhide S2).keep hb1).mono hb1.size) (((unhide S4).keep hb1).mono hb1.size))
  rw [decide_eq_true (rfl : m = m)] at q2
  have B1 := hide (bTr (unhide HB) hb1)
  clear Ra1 Rb1 HRa HRb hb1 S2 S4
  go_wp2_with fail
  refine (unhide q2).mono ?_
  rintro e w2 ⟨rfl, hb2⟩
  clear x1 x2 xz y1 y2 yz
  go_wp2_with fail
  go_ret
  exact ⟨rfl, bTr (unhide B1) hb2⟩
section
variable {H : Type} {enc : TypeId × Value → H} {w : World} {base : Nat} {sp : Nat → Bool} {held : Bool}
theorem came_bytes {fuel : Nat} {v : Value} {x : DataW H × List MemPlace} (h : DataW.trod enc Tryd.prog w base sp held fuel 22 [v] = some x) : ∃ (a : Option Addr) (len cap : Nat) (l : List UInt8), v = .slice a len cap ∧ SlB w w.heap.size a len l ∧ len ≤ maxLen := by
  rcases open_ints Tryd.underlying22 Tryd.underlying5 (by kernel_rfl) h with ⟨hcs, _⟩ | ⟨x, l, c, zs, hcs, _, hl, hm, hz, _, hcell, hwz⟩
  · simp at hcs
    subst hcs
    exact ⟨none, 0, 0, [], rfl, ⟨rfl, .inl rfl⟩, Nat.zero_le _⟩
  · simp at hcs
    subst hcs
    obtain ⟨⟨l', hs⟩, h1, h2⟩ := bytes_in (w := w) (a := some x) (len := l) (cap := zs.length) (zs := zs) (.inr ⟨x, rfl, by rw [hz]; split <;> omega, by rw [hz]; split <;> omega, rfl, hcell, hwz⟩)
    exact ⟨_, _, _, l', rfl, hs, Nat.le_trans h1 h2⟩
set_option maxRecDepth 100000 in
theorem came_Stored {r : Reach} {b0 : Nat} {v0 : Value} {d : DataW H} {p : List MemPlace} (hv : Value.okWide Tryd.prog w r b0 29 v0) (h : DataW.Trod enc Tryd.prog w base sp held 29 v0 d p) :
    ∃ (a1 a2 : Option Addr) (n1 c1 n2 c2 : Nat) (l m : List UInt8) (n : Int), v0 = .agg #[.slice a1 n1 c1, .int .i64 n, .slice a2 n2 c2] ∧ SlB w w.heap.size a1 n1 l ∧ SlB w w.heap.size a2 n2 m ∧ n1 ≤ maxLen ∧ n2 ≤ maxLen := by
  obtain ⟨c0, c1, c2, y0, y1, y2, m, rfl, _, _, g0, g1, g2⟩ := open_agg3 Tryd.underlying29 (by kernel_rfl) (by kernel_rfl) hv h
  obtain ⟨a1, n1, k1, l, rfl, s1, e1⟩ := came_bytes g0
  obtain ⟨b, q1, _, wb⟩ := DataW.trod_int Tryd.underlying3 g1
  obtain ⟨a2, n2, k2, l2, rfl, s2, e2⟩ := came_bytes g2
  simp at q1
  subst q1
  exact ⟨a1, a2, n1, k1, n2, k2, l, l2, b, rfl, s1, s2, e1, e2⟩
end
end Go.Proofs.YteoaglemkogdaaaDoor.D
