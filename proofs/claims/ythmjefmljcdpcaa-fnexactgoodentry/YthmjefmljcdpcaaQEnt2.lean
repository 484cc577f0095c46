/- laws.szEntry, toEntry, eqEntry. -/
import Derived.Test.YthmjefmljcdpcaaQEnt
namespace Go.Proofs.Ythmjefmljcdpcaa
open Go.RowKit

set_option maxHeartbeats 800000 in
theorem szEntry_any (l : List PartT) (m : List AttrT) (a1 a2 : Option Addr) (l1 c1 l2 c2 : Nat) (w : World) (h1 : SlP w a1 l1 l) (o1 : ∀ q ∈ l, PartT.Ok q) (m1 : l1 ≤ maxLen) (h2 : SlA w a2 l2 m) (o2 : ∀ q ∈ m, AttrT.Ok q) (m2 : l2 ≤ maxLen) :
    Calls Try.prog 27 #[.agg #[.slice a1 l1 c1, .slice a2 l2 c2], .int .i64 1048576] w fun e w' => (∃ k : Int, -1 ≤ k ∧ k ≤ 1048576 ∧ (0 ≤ k → l1 ≤ 1048576 ∧ l2 ≤ 1048576 ∧ ∀ i (h : i < m.length), m[i].vs.length ≤ 1048576) ∧ e = .returned (.int .i64 k)) ∧ Below w.heap.size w w' := by
  have q1 := hide (fun q w h0 h1 hs => szPartS_any a1 l1 c1 l q w h0 h1 m1 hs o1)
  have q2 := hide (fun q w h0 h1 hs => szAttrS_any a2 l2 c2 m q w h0 h1 m2 hs o2)
  have B := hide (bAl (Below.refl w.heap.size w) (.cells #[.slice a1 l1 c1, .slice a2 l2 c2] 50))
  have H1 := hide (h1.keep (unhide B))
  have H2 := hide (h2.keep (unhide B))
  have R := hide (RowIs.new w #[.slice a1 l1 c1, .slice a2 l2 c2] 50)
  clear h1 h2 o1 o2 m1 m2
  go_enter Try.func27, Try.ntmps27
  go_wp2_with fail
  refine (unhide q1 _ _ (by omega) (by omega) (unhide H1)).mono ?_
  rintro e w1 ⟨⟨p, hp1, hp2, hp3, rfl⟩, hb⟩
  replace B := hide (bTr (unhide B) hb)
  replace H2 := hide ((unhide H2).keep hb)
  replace R := hide ((unhide R).keep hb)
  clear hb q1 H1
  by_cases hp : p < 0
  · go_wp2_with fail
    go_ret
    exact ⟨⟨-1, by omega, by omega, by omega, rfl⟩, unhide B⟩
  have e1 := (unhide R).at (o := 1) (v := .slice a2 l2 c2) rfl
  go_wp2_with fail
  refine (unhide q2 _ _ (by omega) (by omega) (unhide H2)).mono ?_
  rintro e w2 ⟨⟨q, hq1, hq2, hq3, rfl⟩, hb⟩
  replace B := hide (bTr (unhide B) hb)
  have HQ := hide hq3
  clear hb q2 H2 hq3
  by_cases hq : q < 0
  · go_wp2_with fail
    go_ret
    exact ⟨⟨-1, by omega, by omega, by omega, rfl⟩, unhide B⟩
  go_wp2_with fail
  go_ret
  refine ⟨⟨q, by omega, by omega, fun _ => ⟨by omega, ?_, fun i hi => ?_⟩, rfl⟩, unhide B⟩
  · have := (unhide HQ (by omega)).1; omega
  · have := (unhide HQ (by omega)).2 i hi; omega

set_option maxHeartbeats 800000 in
theorem toEntry_any (l : List PartT) (m : List AttrT) (a1 a2 : Option Addr) (l1 c1 l2 c2 : Nat) (w : World) (h1 : SlP w a1 l1 l) (m1 : l1 ≤ 1048576) (h2 : SlA w a2 l2 m) (m2 : l2 ≤ 1048576) (hv : ∀ i (h : i < m.length), m[i].vs.length ≤ 1048576) :
    Calls Try.prog 29 #[.agg #[.slice a1 l1 c1, .slice a2 l2 c2]] w fun e w' => (∃ b1 b2, e = .returned (.agg #[.slice (some ⟨b1, 0, none⟩) l1 l1, .slice (some ⟨b2, 0, none⟩) l2 l2]) ∧ PartRow w' b1 0 l ∧ AttrRow w' b2 0 m) ∧ Below w.heap.size w w' := by
  have q1 : Hid (∀ w, SlP w a1 l1 l → Calls Try.prog 11 #[.slice a1 l1 c1] w fun e w' => ∃ b, e = .returned (.slice (some ⟨b, 0, none⟩) l1 l1) ∧ w.heap.size ≤ b ∧ PartRow w' b 0 l ∧ Below w.heap.size w w') :=
    hide (fun w hs => (toPartS_any a1 l1 c1 l w m1 hs).mono fun _ _ h => ⟨_, h.1, Nat.le_refl _, h.2.1, h.2.2⟩)
  have q2 : Hid (∀ w, SlA w a2 l2 m → Calls Try.prog 59 #[.slice a2 l2 c2] w fun e w' => ∃ b, e = .returned (.slice (some ⟨b, 0, none⟩) l2 l2) ∧ w.heap.size ≤ b ∧ AttrNew w' b m ∧ Below w.heap.size w w') :=
    hide (fun w hs => (toAttrS_any a2 l2 c2 m w m2 hv hs).mono fun _ _ h => ⟨_, h.1, Nat.le_refl _, h.2.1, h.2.2⟩)
  have HS1 := hide h1
  have HS2 := hide h2
  clear h1 h2 m1 m2 hv
  go_enter Try.func29, Try.ntmps29
  go_wp2_with fail
  have src := hide (((RowIs.new w #[.slice a1 l1 c1, .slice a2 l2 c2] 50).keep (bAl (Below.refl _ _) (.cells #[.slice none 0 0, .slice none 0 0] 55))).keep (bAl (Below.refl _ _) (.cells #[.slice none 0 0, .slice none 0 0] 55)))
  have ro := hide ((RowIs.new (w.alloc (.cells #[.slice a1 l1 c1, .slice a2 l2 c2] 50)) #[.slice none 0 0, .slice none 0 0] 55).keep (bAl (Below.refl _ _) (.cells #[.slice none 0 0, .slice none 0 0] 55)))
  have out := hide (RowIs.new ((w.alloc (.cells #[.slice a1 l1 c1, .slice a2 l2 c2] 50)).alloc (.cells #[.slice none 0 0, .slice none 0 0] 55)) #[.slice none 0 0, .slice none 0 0] 55)
  have bw := hide (bAl (bAl (bAl (Below.refl w.heap.size w) (.cells #[.slice a1 l1 c1, .slice a2 l2 c2] 50)) (.cells #[.slice none 0 0, .slice none 0 0] 55)) (.cells #[.slice none 0 0, .slice none 0 0] 55))
  have sz : (((w.alloc (.cells #[.slice a1 l1 c1, .slice a2 l2 c2] 50)).alloc (.cells #[.slice none 0 0, .slice none 0 0] 55)).alloc (.cells #[.slice none 0 0, .slice none 0 0] 55)).heap.size = w.heap.size + 3 := by simp
  simp only [World.size_alloc] at ro out
  generalize (((w.alloc (.cells #[.slice a1 l1 c1, .slice a2 l2 c2] 50)).alloc (.cells #[.slice none 0 0, .slice none 0 0] 55)).alloc (.cells #[.slice none 0 0, .slice none 0 0] 55)) = W at src ro out bw sz ⊢
  refine (unhide q1 _ ((unhide HS1).keep (unhide bw))).mono ?_
  rintro e w1 ⟨b1, rfl, hb1, hrow, hb⟩
  have n1 : b1 ≠ w.heap.size + 1 + 1 := by omega
  have n2 : b1 ≠ w.heap.size + 1 := by omega
  have n3 : w.heap.size ≠ w.heap.size + 1 + 1 := by omega
  have n4 : w.heap.size + 1 ≠ w.heap.size + 1 + 1 := by omega
  replace out := (unhide out).keep hb
  replace ro := (unhide ro).keep hb
  replace src := (unhide src).keep hb
  replace bw := bTr (unhide bw) hb
  have sz1 : w.heap.size + 3 ≤ w1.heap.size := by have := hb.size; omega
  clear hb hb1 q1 sz
  have f0 := out.froz 0
  have k0 : w1.cell? ⟨w.heap.size + 1 + 1, 0, none⟩ = some (.slice none 0 0) := out.at rfl
  have d1 : w1.cell? ⟨w.heap.size, 1, none⟩ = some (.slice a2 l2 c2) := src.at rfl
  obtain ⟨W1, hW1⟩ : ∃ W, W = w1.setCell ⟨w.heap.size + 1 + 1, 0, none⟩ (.slice (some ⟨b1, 0, none⟩) l1 l1) := ⟨_, rfl⟩
  have HW1 := hide hW1
  replace out : RowIs W1 (w.heap.size + 1 + 1) #[.slice (some ⟨b1, 0, none⟩) l1 l1, .slice none 0 0] 55 := by rw [hW1]; exact out.set 0 _
  replace ro : RowIs W1 (w.heap.size + 1) #[.slice none 0 0, .slice none 0 0] 55 := by rw [hW1]; exact ro.setOther _ n4
  replace hrow : PartRow W1 b1 0 l := by rw [hW1]; exact hrow.setOther _ n1
  replace bw : Below w.heap.size w W1 := by rw [hW1]; exact bw.setCell (by simp; omega) _
  replace sz1 : w.heap.size + 3 ≤ W1.heap.size := by rw [hW1]; simpa [World.setCell] using sz1
  clear hW1 src
  go_wp2_with fail
  rw [← unhide HW1]
  clear f0 k0 d1 HW1
  refine (unhide q2 _ ((unhide HS2).keep bw)).mono ?_
  rintro e w2 ⟨b2, rfl, hb2, hrow2, hb⟩
  have p1 : w.heap.size + 1 + 1 < b2 := by omega
  have p2 : w.heap.size + 1 < b2 := by omega
  replace out := out.keep hb
  replace ro := ro.keep hb
  replace bw := bTr bw hb
  replace hrow := hrow.keep hb
  clear hb hb2 q2 sz1
  have f1 := out.froz 1
  have k0 : w2.cell? ⟨w.heap.size + 1 + 1, 0, none⟩ = some (.slice (some ⟨b1, 0, none⟩) l1 l1) := out.at rfl
  have k1 : w2.cell? ⟨w.heap.size + 1 + 1, 1, none⟩ = some (.slice none 0 0) := out.at rfl
  have g0 := ro.froz 0
  have g1 := ro.froz 1
  have j0 : w2.cell? ⟨w.heap.size + 1, 0, none⟩ = some (.slice none 0 0) := ro.at rfl
  have j1 : w2.cell? ⟨w.heap.size + 1, 1, none⟩ = some (.slice none 0 0) := ro.at rfl
  clear out ro
  go_wp2_with fail
  refine bodyPost_ret (v := .agg #[.slice (some ⟨b1, 0, none⟩) l1 l1, .slice (some ⟨b2, 0, none⟩) l2 l2]) (by simp [results, Try.results29, go_sem, j0, j1]) rfl ⟨⟨b1, b2, rfl, ?_, ?_⟩, ?_⟩
  · exact ((hrow.setOther _ n1).setOther _ n2).setOther _ n2
  · exact (((hrow2.setOther _ p1).setOther _ p2).setOther _ p2).row
  · exact ((bw.setCell (by simp; omega) _).setCell (by simp) _).setCell (by simp) _

set_option maxHeartbeats 800000 in
theorem eqEntry_same (l : List PartT) (m : List AttrT) (a1 a2 b1 b2 : Option Addr) (l1 c1 l2 c2 k1 d1 k2 d2 : Nat) (w : World) (h1 : SlP w a1 l1 l) (h2 : SlA w a2 l2 m) (g1 : SlP w b1 k1 l) (g2 : SlA w b2 k2 m) (m1 : l1 ≤ maxLen) (m2 : l2 ≤ maxLen) (hok : ∀ q ∈ m, AttrT.Ok q) :
    Calls Try.prog 31 #[.agg #[.slice a1 l1 c1, .slice a2 l2 c2], .agg #[.slice b1 k1 d1, .slice b2 k2 d2]] w fun e w' => e = .returned (.bool true) ∧ Below w.heap.size w w' := by
  have q1 := hide (fun w h1 g1 => eqPartS_same a1 b1 l1 c1 k1 d1 l w h1 g1 m1)
  have q2 := hide (fun w h2 g2 => eqAttrS_same a2 b2 l2 c2 k2 d2 m w h2 g2 m2 hok)
  have B := hide (bAl (bAl (Below.refl w.heap.size w) (.cells #[.slice a1 l1 c1, .slice a2 l2 c2] 55)) (.cells #[.slice b1 k1 d1, .slice b2 k2 d2] 55))
  have R1 := hide ((RowIs.new w #[.slice a1 l1 c1, .slice a2 l2 c2] 55).keep (bAl (Below.refl _ _) (.cells #[.slice b1 k1 d1, .slice b2 k2 d2] 55)))
  have R2 := hide (RowIs.new (w.alloc (.cells #[.slice a1 l1 c1, .slice a2 l2 c2] 55)) #[.slice b1 k1 d1, .slice b2 k2 d2] 55)
  simp only [World.size_alloc] at R2
  have H1 := hide (h1.keep (unhide B))
  have H2 := hide (h2.keep (unhide B))
  have G1 := hide (g1.keep (unhide B))
  have G2 := hide (g2.keep (unhide B))
  clear h1 h2 g1 g2 m1 m2 hok
  go_enter Try.func31, Try.ntmps31
  go_wp2_with fail
  refine (unhide q1 _ (unhide H1) (unhide G1)).mono ?_
  rintro e w1 ⟨rfl, hb⟩
  replace B := hide (bTr (unhide B) hb)
  replace H2 := hide ((unhide H2).keep hb)
  replace G2 := hide ((unhide G2).keep hb)
  have e1 := ((unhide R1).keep hb).at (o := 1) (v := .slice a2 l2 c2) rfl
  have e2 := ((unhide R2).keep hb).at (o := 1) (v := .slice b2 k2 d2) rfl
  clear hb q1 H1 G1
  go_wp2_with fail
  refine (unhide q2 _ (unhide H2) (unhide G2)).mono ?_
  rintro e w2 ⟨rfl, hb⟩
  replace B := hide (bTr (unhide B) hb)
  clear hb
  go_wp2_with fail
  go_ret
  exact ⟨rfl, unhide B⟩
end Go.Proofs.Ythmjefmljcdpcaa
