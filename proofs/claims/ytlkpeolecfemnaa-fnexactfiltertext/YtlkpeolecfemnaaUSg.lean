/- spec.l3Tree, GoodExpr. -/
import Derived.Test.YtlkpeolecfemnaaURj
import Derived.Deep.RegionHeld3
namespace Go.Proofs.Ytlkpeolecfemnaa.V
open Go.RowKit Go.Maps

def TreeIs (w' : World) (lo : Nat) (l : List FilterNodeT) (e : Ending) : Prop :=
  (¬ GFilt l ∧ ∃ X sa sn sc, e = .returned (.tuple #[agg8 X (.slice sa sn sc), .bool false])) ∨ (GFilt l ∧ ∃ t sa sn sc, e = .returned (.tuple #[agg8 t.n (.slice sa sn sc), .bool true]) ∧ takeT 20 l = some (t, []) ∧ Right t ∧ TrAt 20 w' lo (.slice sa sn sc) t)
theorem GFilt.iff {l : List FilterNodeT} {t : FT} {l' : List FilterNodeT} (h : takeT 20 l = some (t, l')) (h60 : l.length ≤ 60) : GFilt l ↔ (l' = [] ∧ Right t) := by
  constructor
  · rintro ⟨_, t', h'⟩
    obtain ⟨a, b⟩ := (grow_iff 20 _ _ _).1 h'
    rw [h] at a
    simp at a
    obtain ⟨rfl, rfl⟩ := a
    exact ⟨rfl, b⟩
  · rintro ⟨rfl, hr⟩
    exact ⟨h60, t, (grow_iff 20 _ _ _).2 ⟨h, hr⟩⟩
theorem GFilt.no {l : List FilterNodeT} (h : takeT 20 l = none) : ¬ GFilt l := by
  rintro ⟨_, t', h'⟩
  obtain ⟨a, b⟩ := (grow_iff 20 _ _ _).1 h'
  rw [h] at a; cases a

set_option maxRecDepth 20000 in
set_option maxHeartbeats 4000000 in
theorem l3Tree_any (a : Option Addr) (len cap : Nat) (l : List FilterNodeT) (w : World) (hl : len ≤ 1048576) (hs : SlFilterNode w a len l) (hok : ∀ q ∈ l, OkX q) :
    Calls Try.prog 10 #[.slice a len cap] w fun e w' => TreeIs w' w.heap.size l e ∧ Below w.heap.size w w' := by
  by_cases h1 : len < 1 ∨ 60 < len
  · have no : Hid (¬ GFilt l) := hide (by
      rintro ⟨h60, t, h⟩
      rcases h1 with h1 | h1
      · have : l = [] := List.length_eq_zero_iff.1 (by rw [← hs.1]; omega)
        rw [this] at h; cases h
      · rw [← hs.1] at h60; omega)
    clear hs hok
    rcases h1 with h1 | h1
    · obtain rfl : len = 0 := by omega
      clear h1
      go_enter Try.func10, Try.ntmps10
      go_wp2_with fail
      refine bodyPost_ret (v := .tuple #[agg8 zX (.slice none 0 0), .bool false]) (by simp [results, Try.results10, go_sem]) rfl ⟨.inl ⟨unhide no, _, _, _, _, rfl⟩, bAl (Below.refl _ _) _⟩
    · have h2 : ¬ len < 1 := by omega
      have d0 : ((len : Int) == 0) = false := beq_eq_false_iff_ne.2 (by omega)
      go_enter Try.func10, Try.ntmps10
      go_wp2_with fail
      refine bodyPost_ret (v := .tuple #[agg8 zX (.slice none 0 0), .bool false]) (by simp [results, Try.results10, go_sem]) rfl ⟨.inl ⟨unhide no, _, _, _, _, rfl⟩, bAl (Below.refl _ _) _⟩
  have h2 : ¬ len < 1 := fun h => h1 (.inl h)
  have h3 : ¬ 60 < len := fun h => h1 (.inr h)
  have d0 : ((len : Int) == 0) = false := beq_eq_false_iff_ne.2 (by omega)
  have h60 : l.length ≤ 60 := by rw [← hs.1]; omega
  have q := hide (fun w hs => l3Take_any 20 a len cap l 0 1 w (by omega) (by omega) (by omega) hs (Nat.zero_le _))
  have HS := hide hs
  have HO := hide hok
  have R0 := hide (RowIs.new w (row8 zX (.slice none 0 0)) 35)
  have B0 := hide (bAl (Below.refl w.heap.size w) (.cells (row8 zX (.slice none 0 0)) 35))
  have s0 : (w.alloc (.cells (row8 zX (.slice none 0 0)) 35)).heap.size = w.heap.size + 1 := by simp
  clear hs hok h1
  go_enter Try.func10, Try.ntmps10
  go_wp2_with fail
  refine (unhide q _ ((unhide HS).keep (unhide B0))).mono ?_
  rintro e w1 ⟨hte, hb1⟩
  simp only [TakeEnd, List.drop_zero] at hte
  have R1 := hide ((unhide R0).keep hb1)
  have B1 := hide (bTr (unhide B0) hb1)
  have zl : w.heap.size < w1.heap.size := (unhide R1).lt
  clear R0 B0 q
  rcases hte with ⟨hg, rfl⟩ | ⟨t, at2, s, hg, ha2, rfl, htr⟩
  · have no := hide (GFilt.no hg)
    obtain ⟨W3, hW3⟩ : ∃ W, W = w1.alloc (.cells (row8 zX (.slice none 0 0)) 35) := ⟨_, rfl⟩
    have b3 : Below w1.heap.size w1 W3 := by rw [hW3]; exact bAl (Below.refl _ _) _
    have K3 := show RowIs W3 w1.heap.size (row8 zX (.slice none 0 0)) 35 by rw [hW3]; exact RowIs.new _ _ _
    have Z3 := (unhide R1).keep b3
    have B3 := hide (bTr (unhide B1) b3)
    have HW3 := hide hW3.symm
    have d : ((-1 : Int) == (len : Int)) = false := by simp
    clear hg hb1 b3 hW3 R1 B1
    iterate 20 (try (first | go_values | go_skip | go_guarded | go_step | go_upon | go_simp))
    rw [unhide HW3]
    have k0 := K3.at (o := 0) (v := .int .i64 0) rfl
    have k1 := K3.at (o := 1) (v := .string ⟨#[]⟩) rfl
    have k2 := K3.at (o := 2) (v := .string ⟨#[]⟩) rfl
    have k3 := K3.at (o := 3) (v := .int .i64 0) rfl
    have k4 := K3.at (o := 4) (v := .slice none 0 0) rfl
    have j0 := Z3.at (o := 0) (v := .int .i64 0) rfl
    have j1 := Z3.at (o := 1) (v := .string ⟨#[]⟩) rfl
    have j2 := Z3.at (o := 2) (v := .string ⟨#[]⟩) rfl
    have j3 := Z3.at (o := 3) (v := .int .i64 0) rfl
    have j4 := Z3.at (o := 4) (v := .slice none 0 0) rfl
    have y0 := Z3.froz 0
    have y1 := Z3.froz 1
    have y2 := Z3.froz 2
    have y3 := Z3.froz 3
    have y4 := Z3.froz 4
    clear K3 Z3 HW3
    go_wp2_with fail
    go_region
    go_wp2_with fail
    refine bodyPost_ret (v := .tuple #[agg8 zX (.slice none 0 0), .bool false]) (by simp [results, Try.results10, go_sem, j0, j1, j2, j3, j4]) rfl ⟨.inl ⟨unhide no, _, _, _, _, rfl⟩, ?_⟩
    refine Below.drew ?_
    (repeat (refine Below.setCell ?_ (by simp) _))
    exact unhide B3
  · obtain ⟨Y, hY⟩ : ∃ Y, t.n = Y := ⟨_, rfl⟩
    rw [hY]
    obtain ⟨sa, sc, sn, rfl⟩ : ∃ a cap n, s = .slice a n cap := by obtain ⟨_, _, a, cap, e, _⟩ := htr; exact ⟨_, _, _, e⟩
    obtain ⟨W3, hW3⟩ : ∃ W, W = w1.alloc (.cells (row8 Y (.slice sa sn sc)) 35) := ⟨_, rfl⟩
    have b3 : Below w1.heap.size w1 W3 := by rw [hW3]; exact bAl (Below.refl _ _) _
    have K3 := show RowIs W3 w1.heap.size (row8 Y (.slice sa sn sc)) 35 by rw [hW3]; exact RowIs.new _ _ _
    have Z3 := (unhide R1).keep b3
    have B3 := hide (bTr (unhide B1) b3)
    rw [s0] at htr
    have TR := hide (htr.keptY ((KeptY.refl _ _).below b3 (Nat.le_refl _)))
    have HG := hide hg
    have HY := hide hY
    have HW3 := hide hW3.symm
    have HL := hide (unhide HS).1
    have gi := hide (GFilt.iff hg h60)
    clear hb1 b3 hW3 R1 B1 htr hg hY
    iterate 20 (try (first | go_values | go_skip | go_guarded | go_step | go_upon | go_simp))
    rw [unhide HW3]
    clear HW3
    have k0 := K3.at (o := 0) (v := .int .i64 Y.f0) rfl
    have k1 := K3.at (o := 1) (v := .string Y.f1) rfl
    have k2 := K3.at (o := 2) (v := .string Y.f2) rfl
    have k3 := K3.at (o := 3) (v := .int .i64 Y.f3) rfl
    have k4 := K3.at (o := 4) (v := .slice sa sn sc) rfl
    have j0 := Z3.at (o := 0) (v := .int .i64 0) rfl
    have j1 := Z3.at (o := 1) (v := .string ⟨#[]⟩) rfl
    have j2 := Z3.at (o := 2) (v := .string ⟨#[]⟩) rfl
    have j3 := Z3.at (o := 3) (v := .int .i64 0) rfl
    have j4 := Z3.at (o := 4) (v := .slice none 0 0) rfl
    have y0 := Z3.froz 0
    have y1 := Z3.froz 1
    have y2 := Z3.froz 2
    have y3 := Z3.froz 3
    have y4 := Z3.froz 4
    by_cases he : at2 = len
    · subst he
      have hd : Hid (l.drop at2 = []) := hide (by rw [unhide HL, List.drop_length])
      obtain ⟨LO, hLO⟩ : ∃ LO, LO = w.heap.size + 1 := ⟨_, rfl⟩
      rw [← hLO] at TR
      have q := hide (fun w h => l3Right_any 20 w LO (.slice sa sn sc) t h (takeT_all 20 l t _ (unhide HG) (unhide HO)).1)
      rw [unhide HY] at q
      have TR' := hide (fun W (h : KeptY LO W3 W) => (unhide TR).keptY h)
      have HLO := hide hLO
      replace K3 := hide K3
      replace Z3 := hide Z3
      have d : ((at2 : Int) == (at2 : Int)) = true := by simp
      clear hLO
      go_wp2_with fail
      go_region_with (go_at_call 17; refine (unhide q _ (unhide TR' _ (by exact ⟨Nat.le_refl _, fun _ _ _ => rfl⟩))).mono ?_; rintro e w4 ⟨⟨b4, rfl, h4⟩, hb4⟩; have H4 := hide h4; have HB4 := hide (undrew hb4); have K4 := (unhide K3).keep (undrew hb4); have Z4 := (unhide Z3).keep (undrew hb4); have a0 := K4.at (o := 0) (v := .int .i64 Y.f0) rfl; have a1 := K4.at (o := 1) (v := .string Y.f1) rfl; have a2 := K4.at (o := 2) (v := .string Y.f2) rfl; have a3 := K4.at (o := 3) (v := .int .i64 Y.f3) rfl; have a4 := K4.at (o := 4) (v := .slice sa sn sc) rfl; have m0 := Z4.at (o := 0) (v := .int .i64 0) rfl; have m1 := Z4.at (o := 1) (v := .string ⟨#[]⟩) rfl; have m2 := Z4.at (o := 2) (v := .string ⟨#[]⟩) rfl; have m3 := Z4.at (o := 3) (v := .int .i64 0) rfl; have m4 := Z4.at (o := 4) (v := .slice none 0 0) rfl; have o0 := Z4.froz 0; have o1 := Z4.froz 1; have o2 := Z4.froz 2; have o3 := Z4.froz 3; have o4 := Z4.froz 4; clear h4 hb4 K4 Z4)
      all_goals go_wp2_with fail
      all_goals refine bodyPost_ret (v := .tuple #[agg8 Y (.slice sa sn sc), .bool b4]) (by simp [results, Try.results10, go_sem, m0, m1, m2, m3, m4]) rfl ⟨?_, ?_⟩
      all_goals (first
        | (refine Below.setCell ?_ (by simp) _; (repeat (refine Below.setCell ?_ (by simp) _)); exact bTr (unhide B3) (unhide HB4))
        | (cases b4 with
          | false => exact .inl ⟨fun h => (by have := (unhide H4).2 ((unhide gi).1 h).2; cases this), _, _, _, _, rfl⟩
          | true =>
            refine .inr ⟨(unhide gi).2 ⟨unhide hd, (unhide H4).1 rfl⟩, t, sa, sn, sc, by rw [unhide HY], by rw [unhide HG, unhide hd], (unhide H4).1 rfl, ?_⟩
            refine (unhide TR' _ ?_).low (by rw [unhide HLO]; omega)
            (repeat (refine KeptY.set ?_ _ _ _ (by rw [unhide HLO]; omega)))
            exact (KeptY.refl _ _).below (unhide HB4) (Nat.le_refl _)))
    · have d : ((at2 : Int) == (len : Int)) = false := by simp; omega
      have no : Hid (¬ GFilt l) := hide (fun h => by
        have := ((unhide gi).1 h).1
        rw [List.drop_eq_nil_iff] at this
        have := unhide HL
        omega)
      clear K3 Z3 gi TR HG HO HS ha2
      go_wp2_with fail
      go_region
      go_wp2_with fail
      refine bodyPost_ret (v := .tuple #[agg8 Y (.slice sa sn sc), .bool false]) (by simp [results, Try.results10, go_sem, j0, j1, j2, j3, j4]) rfl ⟨.inl ⟨unhide no, _, _, _, _, rfl⟩, ?_⟩
      refine Below.drew ?_
      (repeat (refine Below.setCell ?_ (by simp) _))
      exact unhide B3

end Go.Proofs.Ytlkpeolecfemnaa.V
