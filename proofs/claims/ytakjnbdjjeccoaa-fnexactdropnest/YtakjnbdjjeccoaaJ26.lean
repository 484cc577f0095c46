/- GChw, GChi, one behind the other. -/
import Derived.Test.YtakjnbdjjeccoaaJ25
import Derived.Test.YtakjnbdjjeccoaaJ22
/- spec.AddNest, spec.DropNest. -/
namespace Go.Proofs.Ytakjnbdjjeccoaa
open Go.RowKit

set_option maxRecDepth 100000 in
set_option maxHeartbeats 400000 in
theorem sAddNest_any (a : Option Addr) (len cap : Nat) (l : List NestT) (ra : Option Addr) (rlen rcap : Nat) (g m : Bs) (w : World) (hl : len ≤ maxLen) (hs : SlNest w a len l) (hok : ∀ q ∈ l, NestT.Ok q) (hg : g.size ≤ maxLen) (hm : m.size ≤ maxLen) :
    Calls Try.prog 24 #[.slice a len cap, .slice ra rlen rcap, .agg #[.string g, .string m]] w fun e w' => (∃ v u r1 r2, e = .returned (.tuple #[v, u]) ∧ PChg l (g, m) (AddS l (g, m)) r1 r2 ∧ w'.ownsRow w.heap.size 42 2 v r1.length (NestsV r1) ∧ w'.ownsRow w.heap.size 70 3 u r2.length (ReachsV r2) ∧ DJ v u) ∧ Below w.heap.size w w' := by
  obtain ⟨W, hW⟩ : ∃ W, W = w.alloc (.cells #[.string g, .string m] 42) := ⟨_, rfl⟩
  have B0 := hide (show Below w.heap.size w W by rw [hW]; exact bAl (Below.refl _ _) _)
  have HW := hide hW.symm
  have qg := hide (l5Change_any a len cap l g m true W hl (hs.keep (unhide B0)) hok hg hm)
  clear hs hok hW
  unfold maxLen at hl
  go_enter Try.func24, Try.ntmps24
  go_wp2_with fail
  rw [unhide HW]
  refine (unhide qg).mono ?_
  rintro e w1 ⟨⟨v, u, r1, r2, rfl, hP, ho1, ho2, hd⟩, hb1⟩
  have FIN := hide (show PChg l (g, m) (AddS l (g, m)) r1 r2 ∧ w1.ownsRow w.heap.size 42 2 v r1.length (NestsV r1) ∧ w1.ownsRow w.heap.size 70 3 u r2.length (ReachsV r2) ∧ DJ v u from ⟨hP, own_base ho1 (unhide B0).size, own_base ho2 (unhide B0).size, hd⟩)
  have B1 := hide (bTr (unhide B0) hb1)
  clear hP ho1 ho2 hd hb1 qg B0 HW
  go_wp2_with fail
  exact bodyPost_ret (v := .tuple #[v, u]) (by simp [results, Try.results24, go_sem]) rfl ⟨⟨v, u, r1, r2, rfl, unhide FIN⟩, unhide B1⟩

set_option maxRecDepth 100000 in
set_option maxHeartbeats 400000 in
theorem sDropNest_any (a : Option Addr) (len cap : Nat) (l : List NestT) (ra : Option Addr) (rlen rcap : Nat) (g m : Bs) (w : World) (hl : len ≤ maxLen) (hs : SlNest w a len l) (hok : ∀ q ∈ l, NestT.Ok q) (hg : g.size ≤ maxLen) (hm : m.size ≤ maxLen) :
    Calls Try.prog 29 #[.slice a len cap, .slice ra rlen rcap, .agg #[.string g, .string m]] w fun e w' => (∃ v u r1 r2, e = .returned (.tuple #[v, u]) ∧ PChg l (g, m) (DropS l (g, m)) r1 r2 ∧ w'.ownsRow w.heap.size 42 2 v r1.length (NestsV r1) ∧ w'.ownsRow w.heap.size 70 3 u r2.length (ReachsV r2) ∧ DJ v u) ∧ Below w.heap.size w w' := by
  obtain ⟨W, hW⟩ : ∃ W, W = w.alloc (.cells #[.string g, .string m] 42) := ⟨_, rfl⟩
  have B0 := hide (show Below w.heap.size w W by rw [hW]; exact bAl (Below.refl _ _) _)
  have HW := hide hW.symm
  have qg := hide (l5Change_any a len cap l g m false W hl (hs.keep (unhide B0)) hok hg hm)
  clear hs hok hW
  unfold maxLen at hl
  go_enter Try.func29, Try.ntmps29
  go_wp2_with fail
  rw [unhide HW]
  refine (unhide qg).mono ?_
  rintro e w1 ⟨⟨v, u, r1, r2, rfl, hP, ho1, ho2, hd⟩, hb1⟩
  have FIN := hide (show PChg l (g, m) (DropS l (g, m)) r1 r2 ∧ w1.ownsRow w.heap.size 42 2 v r1.length (NestsV r1) ∧ w1.ownsRow w.heap.size 70 3 u r2.length (ReachsV r2) ∧ DJ v u from ⟨hP, own_base ho1 (unhide B0).size, own_base ho2 (unhide B0).size, hd⟩)
  have B1 := hide (bTr (unhide B0) hb1)
  clear hP ho1 ho2 hd hb1 qg B0 HW
  go_wp2_with fail
  exact bodyPost_ret (v := .tuple #[v, u]) (by simp [results, Try.results29, go_sem]) rfl ⟨⟨v, u, r1, r2, rfl, unhide FIN⟩, unhide B1⟩

end Go.Proofs.Ytakjnbdjjeccoaa
/- impl.AddNest, impl.DropNest: the walks. -/
namespace Go.Proofs.Ytakjnbdjjeccoaa
open Go.RowKit Go.Maps

set_option maxRecDepth 100000 in
set_option maxHeartbeats 1500000 in
theorem iAddNest_any (a : Option Addr) (len cap : Nat) (l : List NestT) (ra : Option Addr) (rlen rcap : Nat) (g m : Bs) (w : World) (hl : len ≤ maxLen) (hs : SlNest w a len l) (hok : ∀ q ∈ l, NestT.Ok q) (hg : g.size ≤ maxLen) (hm : m.size ≤ maxLen) :
    Calls Try.prog 27 #[.slice a len cap, .slice ra rlen rcap, .agg #[.string g, .string m]] w fun e w' => (∃ v u r1 r2, e = .returned (.tuple #[v, u]) ∧ PChg l (g, m) (AddS l (g, m)) r1 r2 ∧ w'.ownsRow w.heap.size 42 2 v r1.length (NestsV r1) ∧ w'.ownsRow w.heap.size 70 3 u r2.length (ReachsV r2) ∧ DJ v u) ∧ Below w.heap.size w w' := by
  obtain ⟨W, hW⟩ : ∃ W, W = w.alloc (.cells #[.string g, .string m] 42) := ⟨_, rfl⟩
  have R0 := hide (show RowIs W w.heap.size #[.string g, .string m] 42 by rw [hW]; exact RowIs.new _ _ _)
  have B0 := hide (show Below w.heap.size w W by rw [hW]; exact bAl (Below.refl _ _) _)
  have HW := hide hW.symm
  have HS := hide hs
  have HO := hide hok
  have HL := hide hs.1
  have qg := hide (iGoodNests_any a len cap l W hl (hs.keep (unhide B0)) hok)
  have qn := hide (fun w => goodNest_any g m hg hm w)
  clear hs hok hW
  unfold maxLen at hl
  go_enter Try.func27, Try.ntmps27
  go_wp2_with fail
  rw [unhide HW]
  refine (unhide qg).mono ?_
  rintro e w1 ⟨⟨gd, rfl, hgd⟩, hb1⟩
  have HG := hide hgd
  have B1 := hide (bTr (unhide B0) hb1)
  have R1 := hide ((unhide R0).keep hb1)
  clear hgd hb1 qg R0 B0 HW
  cases gd
  · have FIN := hide (show PChg l (g, m) (AddS l (g, m)) [] [] from .inr ⟨(fun h => by have := (unhide HG).2 h.1; cases this), rfl, rfl⟩)
    clear HG qn
    go_wp2_with fail
    refine bodyPost_ret (v := .tuple #[.slice none 0 0, .slice none 0 0]) (by simp [results, Try.results27, go_sem]) rfl ⟨⟨_, _, [], [], rfl, unhide FIN, World.ownsRow_nil _ _ _ _, World.ownsRow_nil _ _ _ _, dj_nil _⟩, unhide B1⟩
  · have GD := hide ((unhide HG).1 rfl)
    have y0 := (unhide R1).at (o := 0) (v := .string g) rfl
    have y1 := (unhide R1).at (o := 1) (v := .string m) rfl
    have zy := (unhide R1).lt
    clear HG
    go_wp2_with fail
    refine (unhide qn _).mono ?_
    rintro e w2 ⟨rfl, hb2⟩
    have B2 := hide (bTr (unhide B1) hb2)
    have R2 := hide ((unhide R1).keep hb2)
    clear hb2 qn R1 B1 y0 y1 zy
    cases hx : gNest g m
    · have FIN := hide (show PChg l (g, m) (AddS l (g, m)) [] [] from .inr ⟨(fun h => by have := h.2; simp only at this; rw [hx] at this; cases this), rfl, rfl⟩)
      clear hx
      go_wp2_with fail
      refine bodyPost_ret (v := .tuple #[.slice none 0 0, .slice none 0 0]) (by simp [results, Try.results27, go_sem]) rfl ⟨⟨_, _, [], [], rfl, unhide FIN, World.ownsRow_nil _ _ _ _, World.ownsRow_nil _ _ _ _, dj_nil _⟩, unhide B2⟩
    · have GN := hide hx
      have hokn := hide (gNest_ok hx)
      have h200 : len ≤ 200 := by rw [unhide HL]; exact (unhide GD).1
      have qs := hide (setOf_any a len cap l w2 h200 ((unhide HS).keep (unhide B2)) (unhide HO))
      clear hx
      go_wp2_with fail
      refine (unhide qs).mono ?_
      rintro e w3 ⟨⟨b, rfl, hbb, hK⟩, hb3⟩
      have K3 := hide hK
      have B3 := hide (bTr (unhide B2) hb3)
      have R3 := (unhide R2).keep hb3
      have y0 := R3.at (o := 0) (v := .string g) rfl
      have y1 := R3.at (o := 1) (v := .string m) rfl
      have zy := R3.lt
      have hbw : w.heap.size ≤ b := Nat.le_trans (unhide B2).size hbb
      clear hK hb3 qs R2 R3
      have qa := hide (addN_any b 200 (SetL l) (g, m) w3 (unhide K3) (by unfold maxLen; omega) (unhide hokn))
      go_wp2_with fail
      refine (unhide qa).mono ?_
      rintro e w4 ⟨rfl, h1, h2⟩
      have K4 := hide (show KM Try.prog 42 encN w4 b 201 (seM (AddS l (g, m))) from h1)
      have B4 := hide ((unhide B3).grown h2 (unhide B3).size (fun q h => by cases h; exact hbw))
      clear h1 h2 qa K3 B3 y0 y1 zy
      have qt := hide (toldNests_any b 201 _ w4 (unhide K4) (by
        rintro p (h | rfl)
        · exact setL_ok (unhide GD) h
        · exact unhide hokn))
      clear K4
      go_wp2_with fail
      refine (unhide qt).mono ?_
      rintro e w5 ⟨⟨v, r1, rfl, hT, ho⟩, hb5⟩
      have B5 := hide (bTr (unhide B4) hb5)
      have O5 := hide (own_base ho (unhide B4).size)
      obtain ⟨av, cv, ev, hsv⟩ := own_Nest ho
      subst ev
      have HT := hide hT
      have hr1 := hT.len
      have qr := hide (iReachOf_any av r1.length cv r1 w5 (by unfold maxLen; omega) hsv (hT.ok (by
        rintro p (h | rfl)
        · exact setL_ok (unhide GD) h
        · exact unhide hokn)))
      clear hT ho hb5 qt hsv
      go_wp2_with fail
      refine (unhide qr).mono ?_
      rintro e w6 ⟨⟨u, r2, rfl, hP, ho6⟩, hb6⟩
      have FIN := hide (show PChg l (g, m) (AddS l (g, m)) r1 r2 ∧ w6.ownsRow w.heap.size 42 2 (.slice av r1.length cv) r1.length (NestsV r1) ∧ w6.ownsRow w.heap.size 70 3 u r2.length (ReachsV r2) ∧ DJ (.slice av r1.length cv) u from ⟨.inl ⟨⟨unhide GD, unhide GN⟩, unhide HT, hP⟩, own_keep (unhide O5) hb6, own_base ho6 (unhide B5).size, DJ.of (fun q h => ((unhide O5).lt q h).2) (fun q h => (ho6.lt q h).1)⟩)
      have B6 := hide (bTr (unhide B5) hb6)
      clear hP ho6 hb6 qr O5 B5
      go_wp2_with fail
      exact bodyPost_ret (v := .tuple #[.slice av r1.length cv, u]) (by simp [results, Try.results27, go_sem]) rfl ⟨⟨_, _, r1, r2, rfl, unhide FIN⟩, unhide B6⟩

set_option maxRecDepth 100000 in
set_option maxHeartbeats 1500000 in
theorem iDropNest_any (a : Option Addr) (len cap : Nat) (l : List NestT) (ra : Option Addr) (rlen rcap : Nat) (g m : Bs) (w : World) (hl : len ≤ maxLen) (hs : SlNest w a len l) (hok : ∀ q ∈ l, NestT.Ok q) (hg : g.size ≤ maxLen) (hm : m.size ≤ maxLen) :
    Calls Try.prog 30 #[.slice a len cap, .slice ra rlen rcap, .agg #[.string g, .string m]] w fun e w' => (∃ v u r1 r2, e = .returned (.tuple #[v, u]) ∧ PChg l (g, m) (DropS l (g, m)) r1 r2 ∧ w'.ownsRow w.heap.size 42 2 v r1.length (NestsV r1) ∧ w'.ownsRow w.heap.size 70 3 u r2.length (ReachsV r2) ∧ DJ v u) ∧ Below w.heap.size w w' := by
  obtain ⟨W, hW⟩ : ∃ W, W = w.alloc (.cells #[.string g, .string m] 42) := ⟨_, rfl⟩
  have R0 := hide (show RowIs W w.heap.size #[.string g, .string m] 42 by rw [hW]; exact RowIs.new _ _ _)
  have B0 := hide (show Below w.heap.size w W by rw [hW]; exact bAl (Below.refl _ _) _)
  have HW := hide hW.symm
  have HS := hide hs
  have HO := hide hok
  have HL := hide hs.1
  have qg := hide (iGoodNests_any a len cap l W hl (hs.keep (unhide B0)) hok)
  have qn := hide (fun w => goodNest_any g m hg hm w)
  clear hs hok hW
  unfold maxLen at hl
  go_enter Try.func30, Try.ntmps30
  go_wp2_with fail
  rw [unhide HW]
  refine (unhide qg).mono ?_
  rintro e w1 ⟨⟨gd, rfl, hgd⟩, hb1⟩
  have HG := hide hgd
  have B1 := hide (bTr (unhide B0) hb1)
  have R1 := hide ((unhide R0).keep hb1)
  clear hgd hb1 qg R0 B0 HW
  cases gd
  · have FIN := hide (show PChg l (g, m) (DropS l (g, m)) [] [] from .inr ⟨(fun h => by have := (unhide HG).2 h.1; cases this), rfl, rfl⟩)
    clear HG qn
    go_wp2_with fail
    refine bodyPost_ret (v := .tuple #[.slice none 0 0, .slice none 0 0]) (by simp [results, Try.results30, go_sem]) rfl ⟨⟨_, _, [], [], rfl, unhide FIN, World.ownsRow_nil _ _ _ _, World.ownsRow_nil _ _ _ _, dj_nil _⟩, unhide B1⟩
  · have GD := hide ((unhide HG).1 rfl)
    have y0 := (unhide R1).at (o := 0) (v := .string g) rfl
    have y1 := (unhide R1).at (o := 1) (v := .string m) rfl
    have zy := (unhide R1).lt
    clear HG
    go_wp2_with fail
    refine (unhide qn _).mono ?_
    rintro e w2 ⟨rfl, hb2⟩
    have B2 := hide (bTr (unhide B1) hb2)
    have R2 := hide ((unhide R1).keep hb2)
    clear hb2 qn R1 B1 y0 y1 zy
    cases hx : gNest g m
    · have FIN := hide (show PChg l (g, m) (DropS l (g, m)) [] [] from .inr ⟨(fun h => by have := h.2; simp only at this; rw [hx] at this; cases this), rfl, rfl⟩)
      clear hx
      go_wp2_with fail
      refine bodyPost_ret (v := .tuple #[.slice none 0 0, .slice none 0 0]) (by simp [results, Try.results30, go_sem]) rfl ⟨⟨_, _, [], [], rfl, unhide FIN, World.ownsRow_nil _ _ _ _, World.ownsRow_nil _ _ _ _, dj_nil _⟩, unhide B2⟩
    · have GN := hide hx
      have hokn := hide (gNest_ok hx)
      have h200 : len ≤ 200 := by rw [unhide HL]; exact (unhide GD).1
      have qs := hide (setOf_any a len cap l w2 h200 ((unhide HS).keep (unhide B2)) (unhide HO))
      clear hx
      go_wp2_with fail
      refine (unhide qs).mono ?_
      rintro e w3 ⟨⟨b, rfl, hbb, hK⟩, hb3⟩
      have K3 := hide hK
      have B3 := hide (bTr (unhide B2) hb3)
      have R3 := (unhide R2).keep hb3
      have y0 := R3.at (o := 0) (v := .string g) rfl
      have y1 := R3.at (o := 1) (v := .string m) rfl
      have zy := R3.lt
      have hbw : w.heap.size ≤ b := Nat.le_trans (unhide B2).size hbb
      clear hK hb3 qs R2 R3
      have eM := hide (seM_del (SetL l) (g, m))
      go_wp2_with (at_delete; refine wpList_del_km _ kNest rfl _ _ _ rfl _ Try.underlying78 b 200 _ rfl (unhide K3) (g, m) rfl (unhide hokn) ?_; intro w4 h1 h2; rw [unhide eM] at h1; have K4 := hide (show KM Try.prog 42 encN w4 b 201 (seM (DropS l (g, m))) from h1.more (by omega)); have B4 := hide ((unhide B3).grown h2 (unhide B3).size (fun q h => by cases h; exact hbw)); clear h1 h2)
      clear K3 B3 y0 y1 zy eM
      have qt := hide (toldNests_any b 201 _ w4 (unhide K4) (by
        rintro p h
        exact setL_ok (unhide GD) h.1))
      clear K4
      go_wp2_with fail
      refine (unhide qt).mono ?_
      rintro e w5 ⟨⟨v, r1, rfl, hT, ho⟩, hb5⟩
      have B5 := hide (bTr (unhide B4) hb5)
      have O5 := hide (own_base ho (unhide B4).size)
      obtain ⟨av, cv, ev, hsv⟩ := own_Nest ho
      subst ev
      have HT := hide hT
      have hr1 := hT.len
      have qr := hide (iReachOf_any av r1.length cv r1 w5 (by unfold maxLen; omega) hsv (hT.ok (by
        rintro p h
        exact setL_ok (unhide GD) h.1)))
      clear hT ho hb5 qt hsv
      go_wp2_with fail
      refine (unhide qr).mono ?_
      rintro e w6 ⟨⟨u, r2, rfl, hP, ho6⟩, hb6⟩
      have FIN := hide (show PChg l (g, m) (DropS l (g, m)) r1 r2 ∧ w6.ownsRow w.heap.size 42 2 (.slice av r1.length cv) r1.length (NestsV r1) ∧ w6.ownsRow w.heap.size 70 3 u r2.length (ReachsV r2) ∧ DJ (.slice av r1.length cv) u from ⟨.inl ⟨⟨unhide GD, unhide GN⟩, unhide HT, hP⟩, own_keep (unhide O5) hb6, own_base ho6 (unhide B5).size, DJ.of (fun q h => ((unhide O5).lt q h).2) (fun q h => (ho6.lt q h).1)⟩)
      have B6 := hide (bTr (unhide B5) hb6)
      clear hP ho6 hb6 qr O5 B5
      go_wp2_with fail
      exact bodyPost_ret (v := .tuple #[.slice av r1.length cv, u]) (by simp [results, Try.results30, go_sem]) rfl ⟨⟨_, _, r1, r2, rfl, unhide FIN⟩, unhide B6⟩
end Go.Proofs.Ytakjnbdjjeccoaa
