/- YLs, QRow, one behind the other. -/
import Derived.Test.YtcajlndbaipcaaaJ24
import Derived.Deep.CutBlock
import Derived.Deep.DeepCutAuto
import Derived.Test.YtcajlndbaipcaaaJ1
import Derived.Test.YtcajlndbaipcaaaJ3
import Derived.Laws.Rows
import Derived.Laws.MakeOwn
/- spec.LinkPolicy. -/
namespace Go.Proofs.Ytcajlndbaipcaaa.V
open Go.RowKit Go.Maps

set_option maxRecDepth 40000 in
set_option maxHeartbeats 4000000 in
theorem sLinkPolicy_any (P : PolT) (ad : Addr) (len cap : Nat) (id : ByteArray) (pr re : AtomT) (w : World) (ho : P.Ok) (hx : ∀ q ∈ P.wh, OkX q) (hid : id.size ≤ maxLen) (hpr : pr.Ok) (hre : re.Ok) (hl : len ≤ 1048576) (hs : SlExpr w (some ad) len P.wh) :
    Calls Try.prog 6 #[polAgg P (.slice (some ad) len cap), .string id, .agg #[.int .i64 pr.x, .int .i64 pr.n, .string pr.t, .string pr.y], .agg #[.int .i64 re.x, .int .i64 re.n, .string re.t, .string re.y]] w fun e w' => LinkEnd w' w.heap.size P len id pr re e ∧ Below w.heap.size w w' := by
  have HS := hide hs
  obtain ⟨W0, hW0⟩ : ∃ W, W = (((w.alloc (.cells (polRow P (.slice (some ad) len cap)) 36)).alloc (.cells #[.int .i64 pr.x, .int .i64 pr.n, .string pr.t, .string pr.y] 31)).alloc (.cells #[.int .i64 re.x, .int .i64 re.n, .string re.t, .string re.y] 31)).alloc (.cells #[.string ⟨#[]⟩, .bool false, .int .i64 0, .int .i64 0, .int .i64 0, .string ⟨#[]⟩, .string ⟨#[]⟩, .string ⟨#[]⟩, .int .i64 0, .int .i64 0, .int .i64 0, .string ⟨#[]⟩, .string ⟨#[]⟩, .string ⟨#[]⟩, .int .i64 0, .int .i64 0, .int .i64 0, .string ⟨#[]⟩, .string ⟨#[]⟩, .string ⟨#[]⟩, .slice none 0 0] 36) := ⟨_, rfl⟩
  have z0 : W0.heap.size = w.heap.size + 1 + 1 + 1 + 1 := by rw [hW0]; simp
  have b0 : Below w.heap.size w W0 := by rw [hW0]; exact bAl (bAl (bAl (bAl (Below.refl _ _) _) _) _) _
  have R4 : Hid (RowIs W0 (w.heap.size) (polRow P (.slice (some ad) len cap)) 36) := hide (by rw [hW0]; exact (((RowIs.new w _ _).keep (bAl (Below.refl _ _) _)).keep (bAl (Below.refl _ _) _)).keep (bAl (Below.refl _ _) _))
  have R6 : Hid (RowIs W0 (w.heap.size + 1) #[.int .i64 pr.x, .int .i64 pr.n, .string pr.t, .string pr.y] 31) := hide (by rw [hW0]; have h := ((RowIs.new (w.alloc (.cells (polRow P (.slice (some ad) len cap)) 36)) #[.int .i64 pr.x, .int .i64 pr.n, .string pr.t, .string pr.y] 31).keep (bAl (Below.refl _ _) (.cells #[.int .i64 re.x, .int .i64 re.n, .string re.t, .string re.y] 31))).keep (bAl (Below.refl _ _) (.cells #[.string ⟨#[]⟩, .bool false, .int .i64 0, .int .i64 0, .int .i64 0, .string ⟨#[]⟩, .string ⟨#[]⟩, .string ⟨#[]⟩, .int .i64 0, .int .i64 0, .int .i64 0, .string ⟨#[]⟩, .string ⟨#[]⟩, .string ⟨#[]⟩, .int .i64 0, .int .i64 0, .int .i64 0, .string ⟨#[]⟩, .string ⟨#[]⟩, .string ⟨#[]⟩, .slice none 0 0] 36)); rw [World.size_alloc] at h; exact h)
  have R7 : Hid (RowIs W0 (w.heap.size + 1 + 1) #[.int .i64 re.x, .int .i64 re.n, .string re.t, .string re.y] 31) := hide (by rw [hW0]; have h := (RowIs.new ((w.alloc (.cells (polRow P (.slice (some ad) len cap)) 36)).alloc (.cells #[.int .i64 pr.x, .int .i64 pr.n, .string pr.t, .string pr.y] 31)) #[.int .i64 re.x, .int .i64 re.n, .string re.t, .string re.y] 31).keep (bAl (Below.refl _ _) (.cells #[.string ⟨#[]⟩, .bool false, .int .i64 0, .int .i64 0, .int .i64 0, .string ⟨#[]⟩, .string ⟨#[]⟩, .string ⟨#[]⟩, .int .i64 0, .int .i64 0, .int .i64 0, .string ⟨#[]⟩, .string ⟨#[]⟩, .string ⟨#[]⟩, .int .i64 0, .int .i64 0, .int .i64 0, .string ⟨#[]⟩, .string ⟨#[]⟩, .string ⟨#[]⟩, .slice none 0 0] 36)); rw [World.size_alloc, World.size_alloc] at h; exact h)
  have R8 : Hid (RowIs W0 (w.heap.size + 1 + 1 + 1) #[.string ⟨#[]⟩, .bool false, .int .i64 0, .int .i64 0, .int .i64 0, .string ⟨#[]⟩, .string ⟨#[]⟩, .string ⟨#[]⟩, .int .i64 0, .int .i64 0, .int .i64 0, .string ⟨#[]⟩, .string ⟨#[]⟩, .string ⟨#[]⟩, .int .i64 0, .int .i64 0, .int .i64 0, .string ⟨#[]⟩, .string ⟨#[]⟩, .string ⟨#[]⟩, .slice none 0 0] 36) := hide (by rw [hW0]; have h := RowIs.new (((w.alloc (.cells (polRow P (.slice (some ad) len cap)) 36)).alloc (.cells #[.int .i64 pr.x, .int .i64 pr.n, .string pr.t, .string pr.y] 31)).alloc (.cells #[.int .i64 re.x, .int .i64 re.n, .string re.t, .string re.y] 31)) #[.string ⟨#[]⟩, .bool false, .int .i64 0, .int .i64 0, .int .i64 0, .string ⟨#[]⟩, .string ⟨#[]⟩, .string ⟨#[]⟩, .int .i64 0, .int .i64 0, .int .i64 0, .string ⟨#[]⟩, .string ⟨#[]⟩, .string ⟨#[]⟩, .int .i64 0, .int .i64 0, .int .i64 0, .string ⟨#[]⟩, .string ⟨#[]⟩, .string ⟨#[]⟩, .slice none 0 0] 36; rw [World.size_alloc, World.size_alloc, World.size_alloc] at h; exact h)
  have HW := hide hW0.symm
  have B := hide b0
  clear hs hW0 b0
  obtain ⟨T, hT⟩ := bool_of (¬ LinkC P id pr re)
  have HT := hide hT
  clear hT
  have q1 := hide (fun w hs => sGoodPolicy_any P (some ad) len cap w ho hx hl hs)
  have q2 := hide (l7Id_any id hid)
  have q3 := hide (fun w => sGoodAtom_any pr.x pr.n pr.t pr.y w hpr.n9 hpr.t9 hpr.y9)
  have q4 := hide (fun w => sGoodAtom_any re.x re.n re.t re.y w hre.n9 hre.t9 hre.y9)
  have q5 := hide (l10Slot_any P.p)
  have q6 := hide (l10Slot_any P.r)
  have q7 := hide (l10Link_any P.p pr)
  have q8 := hide (l10Link_any P.r re)
  have hll := hide (unhide HS).1
  clear ho hx hid hpr hre
  go_enter Try.func6, Try.ntmps6
  go_upto_region 1 with fail
  rw [unhide HW]
  clear HW
  generalize polAgg P (.slice (some ad) len cap) = V0
  generalize Value.agg #[.int .i64 pr.x, .int .i64 pr.n, .string pr.t, .string pr.y] = V2
  generalize Value.agg #[.int .i64 re.x, .int .i64 re.n, .string re.t, .string re.y] = V3
  go_cut [50] (fun c wx => c = .bool T ∧ Hid (Below W0.heap.size W0 wx))
  case first =>
    have BB := hide (Below.refl W0.heap.size W0)
    go_step
    refine wpList_load_row rfl 36 _ rfl _ rfl 36 _ (0, 0) _ (unhide R4) Try.underlying36 rfl (by kernel_rfl) ?_
    go_wp2_with fail
    refine (unhide q1 _ ((unhide HS).keep (unhide B))).mono ?_
    rintro e w1 ⟨⟨b1, rfl, h1⟩, hb1⟩
    replace R4 := hide ((unhide R4).keep hb1)
    replace R6 := hide ((unhide R6).keep hb1)
    replace R7 := hide ((unhide R7).keep hb1)
    replace BB := hide (bTr (unhide BB) hb1)
    have H1 := hide h1
    clear hb1 h1
    cases b1
    · have et : T = true := (unhide HT).2 (fun h => (by have := (unhide H1).2 h.1; cases this))
      clear HT
      go_wp2_with fail
      go_meet
      exact ⟨by rw [et], BB⟩
    have G1 := hide ((unhide H1).1 rfl)
    clear H1
    go_wp2_with fail
    refine (unhide q2 _).mono ?_
    rintro e w2 ⟨rfl, hb1⟩
    replace R4 := hide ((unhide R4).keep hb1)
    replace R6 := hide ((unhide R6).keep hb1)
    replace R7 := hide ((unhide R7).keep hb1)
    replace BB := hide (bTr (unhide BB) hb1)
    clear hb1
    have hI : Hid (∀ c, idB id = c → (c = true ↔ idB id = true)) := hide (fun c h => by rw [h])
    obtain ⟨I, eI⟩ : ∃ I, idB id = I := ⟨_, rfl⟩
    rw [eI]
    have EI := hide eI
    clear eI hI
    have c60 := (unhide R6).at (o := 0) (v := .int .i64 pr.x) rfl
    have c61 := (unhide R6).at (o := 1) (v := .int .i64 pr.n) rfl
    have c62 := (unhide R6).at (o := 2) (v := .string pr.t) rfl
    have c63 := (unhide R6).at (o := 3) (v := .string pr.y) rfl
    have c70 := (unhide R7).at (o := 0) (v := .int .i64 re.x) rfl
    have c71 := (unhide R7).at (o := 1) (v := .int .i64 re.n) rfl
    have c72 := (unhide R7).at (o := 2) (v := .string re.t) rfl
    have c73 := (unhide R7).at (o := 3) (v := .string re.y) rfl
    cases I
    · have et : T = true := (unhide HT).2 (fun h => (by have := h.2.1; rw [unhide EI] at this; cases this))
      clear HT
      go_wp2_with fail
      go_meet
      exact ⟨by rw [et], BB⟩
    by_cases e3 : pr.x = 4
    case neg =>
      have d3 : (pr.x != 4) = true := by simpa using e3
      have et : T = true := (unhide HT).2 (fun h => e3 h.2.2.1.1)
      clear HT
      go_wp2_with fail
      go_meet
      exact ⟨by rw [et], BB⟩
    have d3 : (pr.x != 4) = false := by simpa using e3
    by_cases e4 : re.x = 4
    case neg =>
      have d4 : (re.x != 4) = true := by simpa using e4
      have et : T = true := (unhide HT).2 (fun h => e4 h.2.2.2.1.1)
      clear HT
      go_wp2_with fail
      go_meet
      exact ⟨by rw [et], BB⟩
    have d4 : (re.x != 4) = false := by simpa using e4
    have E3 := hide e3
    have E4 := hide e4
    clear e3 e4
    go_wp2_with fail
    refine (unhide q3 _).mono ?_
    rintro e w3 ⟨rfl, hb1⟩
    replace R4 := hide ((unhide R4).keep hb1)
    replace R6 := hide ((unhide R6).keep hb1)
    replace R7 := hide ((unhide R7).keep hb1)
    replace BB := hide (bTr (unhide BB) hb1)
    clear hb1 d3 d4 c60 c70 c61 c71 c62 c72 c63 c73
    obtain ⟨G, eG⟩ : ∃ G, goodAtom pr.x pr.n pr.t pr.y = G := ⟨_, rfl⟩
    rw [eG]
    have EG := hide eG
    clear eG
    cases G
    · have et : T = true := (unhide HT).2 (fun h => (by have := h.2.2.1.2; rw [unhide EG] at this; cases this))
      clear HT
      go_wp2_with fail
      go_meet
      exact ⟨by rw [et], BB⟩
    have c70 := (unhide R7).at (o := 0) (v := .int .i64 re.x) rfl
    have c71 := (unhide R7).at (o := 1) (v := .int .i64 re.n) rfl
    have c72 := (unhide R7).at (o := 2) (v := .string re.t) rfl
    have c73 := (unhide R7).at (o := 3) (v := .string re.y) rfl
    go_wp2_with fail
    refine (unhide q4 _).mono ?_
    rintro e w4 ⟨rfl, hb1⟩
    replace R4 := hide ((unhide R4).keep hb1)
    replace R6 := hide ((unhide R6).keep hb1)
    replace R7 := hide ((unhide R7).keep hb1)
    replace BB := hide (bTr (unhide BB) hb1)
    clear hb1 c70 c71 c72 c73
    obtain ⟨G', eG⟩ : ∃ G, goodAtom re.x re.n re.t re.y = G := ⟨_, rfl⟩
    rw [eG]
    have EG' := hide eG
    clear eG
    cases G'
    · have et : T = true := (unhide HT).2 (fun h => (by have := h.2.2.2.1.2; rw [unhide EG'] at this; cases this))
      clear HT
      go_wp2_with fail
      go_meet
      exact ⟨by rw [et], BB⟩
    have c2 := (unhide R4).at (o := 2) (v := .int .i64 P.p.k) rfl
    have c3 := (unhide R4).at (o := 3) (v := .int .i64 P.p.x) rfl
    have c4 := (unhide R4).at (o := 4) (v := .int .i64 P.p.n) rfl
    have c5 := (unhide R4).at (o := 5) (v := .string P.p.t) rfl
    have c6 := (unhide R4).at (o := 6) (v := .string P.p.y) rfl
    have c7 := (unhide R4).at (o := 7) (v := .string P.p.ty) rfl
    go_wp2_with fail
    refine (unhide q5 _).mono ?_
    rintro e w5 ⟨⟨b5, rfl, h5⟩, hb1⟩
    replace R4 := hide ((unhide R4).keep hb1)
    replace R6 := hide ((unhide R6).keep hb1)
    replace R7 := hide ((unhide R7).keep hb1)
    replace BB := hide (bTr (unhide BB) hb1)
    have H5 := hide h5
    clear hb1 h5 c2 c3 c4 c5 c6 c7
    have LC : Hid ((P.p.k = 5 ∨ P.p.k = 6) ∨ (P.r.k = 5 ∨ P.r.k = 6) → LinkC P id pr re) := hide (fun h => ⟨unhide G1, unhide EI, ⟨unhide E3, unhide EG⟩, ⟨unhide E4, unhide EG'⟩, h⟩)
    cases b5
    case true =>
      have et : T = false := by
        cases T with
        | false => rfl
        | true => exact absurd (unhide LC (.inl ((unhide H5).1 rfl))) ((unhide HT).1 rfl)
      clear HT
      go_wp2_with fail
      go_meet
      exact ⟨by rw [et], BB⟩
    have c14 := (unhide R4).at (o := 14) (v := .int .i64 P.r.k) rfl
    have c15 := (unhide R4).at (o := 15) (v := .int .i64 P.r.x) rfl
    have c16 := (unhide R4).at (o := 16) (v := .int .i64 P.r.n) rfl
    have c17 := (unhide R4).at (o := 17) (v := .string P.r.t) rfl
    have c18 := (unhide R4).at (o := 18) (v := .string P.r.y) rfl
    have c19 := (unhide R4).at (o := 19) (v := .string P.r.ty) rfl
    go_wp2_with fail
    refine (unhide q6 _).mono ?_
    rintro e w6 ⟨⟨b6, rfl, h6⟩, hb1⟩
    replace BB := hide (bTr (unhide BB) hb1)
    have H6 := hide h6
    clear hb1 h6 c14 c15 c16 c17 c18 c19
    have et : T = !b6 := by
      rw [Bool.eq_iff_iff, unhide HT]
      constructor
      · intro h; cases b6 with
        | false => rfl
        | true => exact absurd (unhide LC (.inr ((unhide H6).1 rfl))) h
      · intro h h'; rcases h'.2.2.2.2 with g | g
        · have := (unhide H5).2 g; cases this
        · rw [(unhide H6).2 g] at h; cases h
    clear HT
    go_wp2_with fail
    go_meet
    exact ⟨by rw [et], BB⟩
  case rest =>
    obtain ⟨rfl, BB⟩ := hcut
    cases T with
    | true =>
      have no := hide ((unhide HT).1 rfl)
      replace R8 := hide ((unhide R8).keep (unhide BB))
      replace B := hide (bTr (unhide B) (unhide BB))
      clear HT q1 q2 q3 q4 q5 q6 q7 q8 R4 R6 R7 BB
      go_upto_region 2 with fail
      iterate 4 (try (first | go_values | go_skip | go_guarded | go_step | go_upon | go_simp))
      refine wpList_store_row rfl 36 _ _ rfl (w.heap.size + 1 + 1 + 1) #[.string ⟨#[]⟩, .bool false, .int .i64 0, .int .i64 0, .int .i64 0, .string ⟨#[]⟩, .string ⟨#[]⟩, .string ⟨#[]⟩, .int .i64 0, .int .i64 0, .int .i64 0, .string ⟨#[]⟩, .string ⟨#[]⟩, .string ⟨#[]⟩, .int .i64 0, .int .i64 0, .int .i64 0, .string ⟨#[]⟩, .string ⟨#[]⟩, .string ⟨#[]⟩, .slice none 0 0] rfl rfl 36 _ (unhide R8) (by kernel_rfl) rfl (by simp [Value.oneCell']) ?_
      have Z6 := hide (setRow_heap wc (w.heap.size + 1 + 1 + 1) _ #[.string ⟨#[]⟩, .bool false, .int .i64 0, .int .i64 0, .int .i64 0, .string ⟨#[]⟩, .string ⟨#[]⟩, .string ⟨#[]⟩, .int .i64 0, .int .i64 0, .int .i64 0, .string ⟨#[]⟩, .string ⟨#[]⟩, .string ⟨#[]⟩, .int .i64 0, .int .i64 0, .int .i64 0, .string ⟨#[]⟩, .string ⟨#[]⟩, .string ⟨#[]⟩, .slice none 0 0] _ _ (unhide R8))
      go_wp2_with fail
      exact bodyPost_ret (v := .tuple #[zPol, .bool false]) (results_two rfl _ _ (w.heap.size + 1 + 1 + 1) 36 _ (0, 0) _ _ rfl rfl (unhide Z6) Try.underlying36 rfl (by kernel_rfl)) rfl ⟨.inr ⟨unhide no, rfl⟩, bRow (unhide B) (by omega) _⟩
    | false =>
      have yes : Hid (LinkC P id pr re) := hide (Classical.byContradiction fun h => by have := (unhide HT).2 h; cases this)
      obtain ⟨HP, eHP⟩ : ∃ H, linkH P.p pr = H := ⟨_, rfl⟩
      obtain ⟨HR, eHR⟩ : ∃ H, linkH P.r re = H := ⟨_, rfl⟩
      rw [eHP] at q7
      rw [eHR] at q8
      have EP := hide eHP
      have ER := hide eHR
      have ne6 : w.heap.size + 1 ≠ w.heap.size := by omega
      have ne7 : w.heap.size + 1 + 1 ≠ w.heap.size := by omega
      have ne8 : w.heap.size + 1 + 1 + 1 ≠ w.heap.size := by omega
      replace R4 := hide ((unhide R4).keep (unhide BB))
      replace R6 := hide ((unhide R6).keep (unhide BB))
      replace R7 := hide ((unhide R7).keep (unhide BB))
      replace R8 := hide ((unhide R8).keep (unhide BB))
      replace B := hide (bTr (unhide B) (unhide BB))
      clear HT q1 q2 q3 q4 q5 q6 BB eHP eHR
      have f0 := (unhide R4).froz 0
      have c0 := (unhide R4).at (o := 0) (v := .string P.id) rfl
      have c2 := (unhide R4).at (o := 2) (v := .int .i64 P.p.k) rfl
      have c3 := (unhide R4).at (o := 3) (v := .int .i64 P.p.x) rfl
      have c4 := (unhide R4).at (o := 4) (v := .int .i64 P.p.n) rfl
      have c5 := (unhide R4).at (o := 5) (v := .string P.p.t) rfl
      have c6 := (unhide R4).at (o := 6) (v := .string P.p.y) rfl
      have c7 := (unhide R4).at (o := 7) (v := .string P.p.ty) rfl
      have d0 := (unhide R6).at (o := 0) (v := .int .i64 pr.x) rfl
      have d1 := (unhide R6).at (o := 1) (v := .int .i64 pr.n) rfl
      have d2 := (unhide R6).at (o := 2) (v := .string pr.t) rfl
      have d3 := (unhide R6).at (o := 3) (v := .string pr.y) rfl
      go_wp2_with fail
      refine (unhide q7 _).mono ?_
      rintro e w1 ⟨rfl, hb1⟩
      have S4 : Hid (RowIs w1 (w.heap.size) #[.string id, .bool P.pm, .int .i64 P.p.k, .int .i64 P.p.x, .int .i64 P.p.n, .string P.p.t, .string P.p.y, .string P.p.ty, .int .i64 P.a.k, .int .i64 P.a.x, .int .i64 P.a.n, .string P.a.t, .string P.a.y, .string P.a.ty, .int .i64 P.r.k, .int .i64 P.r.x, .int .i64 P.r.n, .string P.r.t, .string P.r.y, .string P.r.ty, .slice (some ad) len cap] 36) := hide (by have h := ((unhide R4).set 0 (.string id)).keep hb1; simp only [List.setIfInBounds_toArray, List.set_cons_zero] at h; exact h)
      have S7 : Hid (RowIs w1 (w.heap.size + 1 + 1) #[.int .i64 re.x, .int .i64 re.n, .string re.t, .string re.y] 31) := hide (((unhide R7).setOther _ ne7).keep hb1)
      have S8 : Hid (RowIs w1 (w.heap.size + 1 + 1 + 1) #[.string ⟨#[]⟩, .bool false, .int .i64 0, .int .i64 0, .int .i64 0, .string ⟨#[]⟩, .string ⟨#[]⟩, .string ⟨#[]⟩, .int .i64 0, .int .i64 0, .int .i64 0, .string ⟨#[]⟩, .string ⟨#[]⟩, .string ⟨#[]⟩, .int .i64 0, .int .i64 0, .int .i64 0, .string ⟨#[]⟩, .string ⟨#[]⟩, .string ⟨#[]⟩, .slice none 0 0] 36) := hide (((unhide R8).setOther _ ne8).keep hb1)
      have SB : Hid (Below w.heap.size w w1) := hide (bTr (below_set (b := w.heap.size) (o := 0) (v := .string id) (unhide B) (Nat.le_refl _)) hb1)
      clear hb1 R4 R6 R7 R8 B f0 c0 c2 c3 c4 c5 c6 c7 d0 d1 d2 d3
      have f2 := (unhide S4).froz 2
      have c2 := (unhide S4).at (o := 2) (v := .int .i64 P.p.k) rfl
      have f3 := (unhide S4).froz 3
      have c3 := (unhide S4).at (o := 3) (v := .int .i64 P.p.x) rfl
      have f4 := (unhide S4).froz 4
      have c4 := (unhide S4).at (o := 4) (v := .int .i64 P.p.n) rfl
      have f5 := (unhide S4).froz 5
      have c5 := (unhide S4).at (o := 5) (v := .string P.p.t) rfl
      have f6 := (unhide S4).froz 6
      have c6 := (unhide S4).at (o := 6) (v := .string P.p.y) rfl
      have f7 := (unhide S4).froz 7
      have c7 := (unhide S4).at (o := 7) (v := .string P.p.ty) rfl
      have c14 := (unhide S4).at (o := 14) (v := .int .i64 P.r.k) rfl
      have c15 := (unhide S4).at (o := 15) (v := .int .i64 P.r.x) rfl
      have c16 := (unhide S4).at (o := 16) (v := .int .i64 P.r.n) rfl
      have c17 := (unhide S4).at (o := 17) (v := .string P.r.t) rfl
      have c18 := (unhide S4).at (o := 18) (v := .string P.r.y) rfl
      have c19 := (unhide S4).at (o := 19) (v := .string P.r.ty) rfl
      have d0 := (unhide S7).at (o := 0) (v := .int .i64 re.x) rfl
      have d1 := (unhide S7).at (o := 1) (v := .int .i64 re.n) rfl
      have d2 := (unhide S7).at (o := 2) (v := .string re.t) rfl
      have d3 := (unhide S7).at (o := 3) (v := .string re.y) rfl
      go_wp2_with fail
      refine (unhide q8 _).mono ?_
      rintro e w2 ⟨rfl, hb1⟩
      have T4 : Hid (RowIs w2 (w.heap.size) #[.string id, .bool P.pm, .int .i64 HP.k, .int .i64 HP.x, .int .i64 HP.n, .string HP.t, .string HP.y, .string HP.ty, .int .i64 P.a.k, .int .i64 P.a.x, .int .i64 P.a.n, .string P.a.t, .string P.a.y, .string P.a.ty, .int .i64 P.r.k, .int .i64 P.r.x, .int .i64 P.r.n, .string P.r.t, .string P.r.y, .string P.r.ty, .slice (some ad) len cap] 36) := hide (by have h := (((((((unhide S4).set 2 (.int .i64 HP.k)).set 3 (.int .i64 HP.x)).set 4 (.int .i64 HP.n)).set 5 (.string HP.t)).set 6 (.string HP.y)).set 7 (.string HP.ty)).keep hb1; simp only [List.setIfInBounds_toArray, List.set_cons_zero, List.set_cons_succ] at h; exact h)
      have T8 : Hid (RowIs w2 (w.heap.size + 1 + 1 + 1) #[.string ⟨#[]⟩, .bool false, .int .i64 0, .int .i64 0, .int .i64 0, .string ⟨#[]⟩, .string ⟨#[]⟩, .string ⟨#[]⟩, .int .i64 0, .int .i64 0, .int .i64 0, .string ⟨#[]⟩, .string ⟨#[]⟩, .string ⟨#[]⟩, .int .i64 0, .int .i64 0, .int .i64 0, .string ⟨#[]⟩, .string ⟨#[]⟩, .string ⟨#[]⟩, .slice none 0 0] 36) := hide ((((((((unhide S8).setOther (o' := 2) (.int .i64 HP.k) ne8).setOther (o' := 3) (.int .i64 HP.x) ne8).setOther (o' := 4) (.int .i64 HP.n) ne8).setOther (o' := 5) (.string HP.t) ne8).setOther (o' := 6) (.string HP.y) ne8).setOther (o' := 7) (.string HP.ty) ne8).keep hb1)
      have TB : Hid (Below w.heap.size w w2) := hide (bTr (below_set (b := w.heap.size) (o := 7) (v := .string HP.ty) (below_set (b := w.heap.size) (o := 6) (v := .string HP.y) (below_set (b := w.heap.size) (o := 5) (v := .string HP.t) (below_set (b := w.heap.size) (o := 4) (v := .int .i64 HP.n) (below_set (b := w.heap.size) (o := 3) (v := .int .i64 HP.x) (below_set (b := w.heap.size) (o := 2) (v := .int .i64 HP.k) (unhide SB) (Nat.le_refl _)) (Nat.le_refl _)) (Nat.le_refl _)) (Nat.le_refl _)) (Nat.le_refl _)) (Nat.le_refl _)) hb1)
      clear hb1 S4 S7 S8 SB f2 c2 c14 f3 c3 c15 f4 c4 c16 f5 c5 c17 f6 c6 c18 f7 c7 c19 d0 d1 d2 d3
      have f14 := (unhide T4).froz 14
      have c14 := (unhide T4).at (o := 14) (v := .int .i64 P.r.k) rfl
      have f15 := (unhide T4).froz 15
      have c15 := (unhide T4).at (o := 15) (v := .int .i64 P.r.x) rfl
      have f16 := (unhide T4).froz 16
      have c16 := (unhide T4).at (o := 16) (v := .int .i64 P.r.n) rfl
      have f17 := (unhide T4).froz 17
      have c17 := (unhide T4).at (o := 17) (v := .string P.r.t) rfl
      have f18 := (unhide T4).froz 18
      have c18 := (unhide T4).at (o := 18) (v := .string P.r.y) rfl
      have f19 := (unhide T4).froz 19
      have c19 := (unhide T4).at (o := 19) (v := .string P.r.ty) rfl
      obtain ⟨W3, hW3⟩ : ∃ W, W = ((((((w2.setCell ⟨w.heap.size, 14, none⟩ (.int .i64 HR.k)).setCell ⟨w.heap.size, 15, none⟩ (.int .i64 HR.x)).setCell ⟨w.heap.size, 16, none⟩ (.int .i64 HR.n)).setCell ⟨w.heap.size, 17, none⟩ (.string HR.t)).setCell ⟨w.heap.size, 18, none⟩ (.string HR.y)).setCell ⟨w.heap.size, 19, none⟩ (.string HR.ty)) := ⟨_, rfl⟩
      have U4 : Hid (RowIs W3 (w.heap.size) #[.string id, .bool P.pm, .int .i64 HP.k, .int .i64 HP.x, .int .i64 HP.n, .string HP.t, .string HP.y, .string HP.ty, .int .i64 P.a.k, .int .i64 P.a.x, .int .i64 P.a.n, .string P.a.t, .string P.a.y, .string P.a.ty, .int .i64 HR.k, .int .i64 HR.x, .int .i64 HR.n, .string HR.t, .string HR.y, .string HR.ty, .slice (some ad) len cap] 36) := hide (by have h := (((((((unhide T4).set 14 (.int .i64 HR.k)).set 15 (.int .i64 HR.x)).set 16 (.int .i64 HR.n)).set 17 (.string HR.t)).set 18 (.string HR.y)).set 19 (.string HR.ty)); simp only [List.setIfInBounds_toArray, List.set_cons_zero, List.set_cons_succ] at h; rw [hW3]; exact h)
      have U8 : Hid (RowIs W3 (w.heap.size + 1 + 1 + 1) #[.string ⟨#[]⟩, .bool false, .int .i64 0, .int .i64 0, .int .i64 0, .string ⟨#[]⟩, .string ⟨#[]⟩, .string ⟨#[]⟩, .int .i64 0, .int .i64 0, .int .i64 0, .string ⟨#[]⟩, .string ⟨#[]⟩, .string ⟨#[]⟩, .int .i64 0, .int .i64 0, .int .i64 0, .string ⟨#[]⟩, .string ⟨#[]⟩, .string ⟨#[]⟩, .slice none 0 0] 36) := hide (by rw [hW3]; exact (((((((unhide T8).setOther (o' := 14) (.int .i64 HR.k) ne8).setOther (o' := 15) (.int .i64 HR.x) ne8).setOther (o' := 16) (.int .i64 HR.n) ne8).setOther (o' := 17) (.string HR.t) ne8).setOther (o' := 18) (.string HR.y) ne8).setOther (o' := 19) (.string HR.ty) ne8))
      have UB : Hid (Below w.heap.size w W3) := hide (by rw [hW3]; exact (below_set (b := w.heap.size) (o := 19) (v := .string HR.ty) (below_set (b := w.heap.size) (o := 18) (v := .string HR.y) (below_set (b := w.heap.size) (o := 17) (v := .string HR.t) (below_set (b := w.heap.size) (o := 16) (v := .int .i64 HR.n) (below_set (b := w.heap.size) (o := 15) (v := .int .i64 HR.x) (below_set (b := w.heap.size) (o := 14) (v := .int .i64 HR.k) (unhide TB) (Nat.le_refl _)) (Nat.le_refl _)) (Nat.le_refl _)) (Nat.le_refl _)) (Nat.le_refl _)) (Nat.le_refl _)))
      have HW3 := hide hW3.symm
      clear T4 T8 TB hW3
      go_upto_region 6 with fail
      rw [unhide HW3]
      clear HW3 f14 c14 f15 c15 f16 c16 f17 c17 f18 c18 f19 c19
      have c20 := (unhide U4).at (o := 20) (v := .slice (some ad) len cap) rfl
      have g20 := (unhide U4).froz 20
      obtain ⟨i0, hi, hz0, hz1, hz2⟩ := info_parts info_Expr
      have zb : w.heap.size + 1 + 1 + 1 + 1 ≤ W3.heap.size := by have := (unhide U8).lt; omega
      have N1 : Hid (∀ j u, (ExprsV P.wh)[j]? = some u → W3.cell? (ad.add j) = some u) := hide (by
        rcases ((unhide HS).keep (unhide UB)).2 with e | ⟨b, off, e, r⟩
        · rw [e]; intro j u h; simp [ExprsV] at h
        · cases e; exact exprs_cells r)
      have N2 : Hid ((ExprsV P.wh).length = len * 7) := hide (by rw [ExprsV_len, ← unhide hll])
      have N3 := hide (one_exprs P.wh)
      have t5 : (0 + len) * 80 ≤ 140737488355328 := by omega
      obtain ⟨EV, hEV⟩ : ∃ EV, ExprsV P.wh = EV := ⟨_, rfl⟩
      rw [hEV] at N1 N2 N3
      have HEV := hide hEV
      clear hEV
      go_upto_region 8 with (at_builtin; refine wpList_append_own_at _ rfl _ _ 34 rfl W3.heap.size 56 i0 _ 7 80 Try.underlying34 hi hz0 hz1 hz2 rfl (by decide) (.slice none 0 0) 0 [] rfl (World.ownsRow_nil _ _ _ _) ad len cap EV rfl (unhide N2) (unhide N1) (unhide N3) (by unfold maxLen; omega) t5 (Nat.le_refl _) ?_; intro v4 w4 hown4 hgrow4 _ hat4; have V4 := hide ((unhide U4).grown hgrow4 (by intro e; cases e)); have V8 := hide ((unhide U8).grown hgrow4 (by intro e; cases e)); have VB := hide ((unhide UB).grown hgrow4 (by omega) (fun j hj => by cases hj)); have k20 := (unhide V4).at (o := 20) (v := .slice (some ad) len cap) rfl; have h20 := (unhide V4).froz 20; rw [Nat.zero_add, List.nil_append] at hown4; obtain ⟨a4, e4, ev⟩ := own_sl hown4; subst ev; replace hown4 := hide hown4; clear hgrow4 hat4 c20 g20)
      obtain ⟨W5, hW5⟩ : ∃ W, W = w4.setCell ⟨w.heap.size, 20, none⟩ (.slice a4 len e4) := ⟨_, rfl⟩
      rw [← hW5]
      have gb : Hid (∀ g, (Value.slice a4 len e4).ownBlock = some g → W3.heap.size ≤ g) := hide (fun g e => ((unhide hown4).lt g e).1)
      have X4 : Hid (RowIs W5 (w.heap.size) #[.string id, .bool P.pm, .int .i64 HP.k, .int .i64 HP.x, .int .i64 HP.n, .string HP.t, .string HP.y, .string HP.ty, .int .i64 P.a.k, .int .i64 P.a.x, .int .i64 P.a.n, .string P.a.t, .string P.a.y, .string P.a.ty, .int .i64 HR.k, .int .i64 HR.x, .int .i64 HR.n, .string HR.t, .string HR.y, .string HR.ty, .slice a4 len e4] 36) := hide (by have h := (unhide V4).set 20 (.slice a4 len e4); simp only [List.setIfInBounds_toArray, List.set_cons_zero, List.set_cons_succ] at h; rw [hW5]; exact h)
      have X8 : Hid (RowIs W5 (w.heap.size + 1 + 1 + 1) #[.string ⟨#[]⟩, .bool false, .int .i64 0, .int .i64 0, .int .i64 0, .string ⟨#[]⟩, .string ⟨#[]⟩, .string ⟨#[]⟩, .int .i64 0, .int .i64 0, .int .i64 0, .string ⟨#[]⟩, .string ⟨#[]⟩, .string ⟨#[]⟩, .int .i64 0, .int .i64 0, .int .i64 0, .string ⟨#[]⟩, .string ⟨#[]⟩, .string ⟨#[]⟩, .slice none 0 0] 36) := hide (by rw [hW5]; exact (unhide V8).setOther _ ne8)
      have XB : Hid (Below w.heap.size w W5) := hide (by rw [hW5]; exact below_set (unhide VB) (Nat.le_refl _))
      have XO : Hid (W5.ownsRow W3.heap.size 56 7 (.slice a4 len e4) len EV) := hide (by rw [hW5]; exact own_set (unhide hown4) (fun g e => by have := unhide gb g e; omega))
      clear V4 V8 VB hown4 hW5 k20 h20
      go_step
      refine wpList_load_row rfl 36 _ rfl (w.heap.size) rfl 36 _ (0, 0) _ (unhide X4) Try.underlying36 rfl (by kernel_rfl) ?_
      refine wpList_store_row rfl 36 _ _ rfl (w.heap.size + 1 + 1 + 1) #[.string id, .bool P.pm, .int .i64 HP.k, .int .i64 HP.x, .int .i64 HP.n, .string HP.t, .string HP.y, .string HP.ty, .int .i64 P.a.k, .int .i64 P.a.x, .int .i64 P.a.n, .string P.a.t, .string P.a.y, .string P.a.ty, .int .i64 HR.k, .int .i64 HR.x, .int .i64 HR.n, .string HR.t, .string HR.y, .string HR.ty, .slice a4 len e4] rfl rfl 36 _ (unhide X8) (by kernel_rfl) rfl (by simp [Value.oneCell']) ?_
      have Z6 := hide (setRow_heap W5 (w.heap.size + 1 + 1 + 1) _ #[.string id, .bool P.pm, .int .i64 HP.k, .int .i64 HP.x, .int .i64 HP.n, .string HP.t, .string HP.y, .string HP.ty, .int .i64 P.a.k, .int .i64 P.a.x, .int .i64 P.a.n, .string P.a.t, .string P.a.y, .string P.a.ty, .int .i64 HR.k, .int .i64 HR.x, .int .i64 HR.n, .string HR.t, .string HR.y, .string HR.ty, .slice a4 len e4] _ _ (unhide X8))
      go_wp2_with fail
      refine bodyPost_ret (v := .tuple #[.agg #[.string id, .bool P.pm, .int .i64 HP.k, .int .i64 HP.x, .int .i64 HP.n, .string HP.t, .string HP.y, .string HP.ty, .int .i64 P.a.k, .int .i64 P.a.x, .int .i64 P.a.n, .string P.a.t, .string P.a.y, .string P.a.ty, .int .i64 HR.k, .int .i64 HR.x, .int .i64 HR.n, .string HR.t, .string HR.y, .string HR.ty, .slice a4 len e4], .bool true]) (results_two rfl _ _ (w.heap.size + 1 + 1 + 1) 36 _ (0, 0) _ _ rfl rfl (unhide Z6) Try.underlying36 rfl (by kernel_rfl)) rfl ⟨.inl ⟨unhide yes, .slice a4 len e4, by simp only [linkP, unhide EP, unhide ER], ?_⟩, bRow (unhide XB) (by omega) _⟩
      rw [unhide HEV]
      exact own_base (base := W3.heap.size) (own_row (unhide XO) (fun g e => by have := unhide gb g e; omega)) (by omega)
end Go.Proofs.Ytcajlndbaipcaaa.V
/- Slices of strings and of parts (two strings each) in memory. -/
namespace Go.Proofs.Ytcajlndbaipcaaa
open Go.RowKit

structure StrRow (w : World) (b off : Nat) (l : List ByteArray) : Prop where
  z : b < w.heap.size
  c : ∀ i (h : i < l.length), w.cell? ⟨b, off + i, none⟩ = some (.string l[i])
theorem StrRow.keep {w w1 : World} {b off : Nat} {l : List ByteArray} (h : StrRow w b off l) (hb : Below w.heap.size w w1) : StrRow w1 b off l :=
  ⟨Nat.lt_of_lt_of_le h.z hb.size, fun i hi => cellB hb h.z (h.c i hi)⟩
def SlS (w : World) (a : Option Addr) (len : Nat) (l : List ByteArray) : Prop := len = l.length ∧ (l = [] ∨ ∃ b off, a = some ⟨b, off, none⟩ ∧ StrRow w b off l)
theorem SlS.keep {w w1 : World} {a : Option Addr} {len : Nat} {l : List ByteArray} (h : SlS w a len l) (hb : Below w.heap.size w w1) : SlS w1 a len l :=
  ⟨h.1, by
    rcases h.2 with e | ⟨b, off, e, r⟩
    · exact .inl e
    · exact .inr ⟨b, off, e, r.keep hb⟩⟩
theorem SlS.at {w : World} {a : Option Addr} {len : Nat} {l : List ByteArray} (h : SlS w a len l) {k : Nat} (hk : k < len) : ∃ b off, a = some ⟨b, off, none⟩ ∧ StrRow w b off l := by
  rcases h.2 with e | e
  · rw [h.1, e] at hk; simp at hk
  · exact e
def RowIs (w : World) (b : Nat) (C : Array Value) (T : TypeId) : Prop := w.heap[b]? = some (.cells C T (0, 0))
theorem RowIs.cell {w : World} {b : Nat} {C : Array Value} {T : TypeId} (h : RowIs w b C T) (o : Nat) : w.cell? ⟨b, o, none⟩ = C[o]? := by
  unfold RowIs at h; simp [World.cell?, h]
theorem RowIs.froz {w : World} {b : Nat} {C : Array Value} {T : TypeId} (h : RowIs w b C T) (o : Nat) : w.frozen? ⟨b, o, none⟩ = false := by
  unfold RowIs at h; simp [World.frozen?, h]
theorem RowIs.lt {w : World} {b : Nat} {C : Array Value} {T : TypeId} (h : RowIs w b C T) : b < w.heap.size := by
  unfold RowIs at h; exact (Array.getElem?_eq_some_iff.1 h).1
theorem RowIs.keep {w w1 : World} {b : Nat} {C : Array Value} {T : TypeId} (h : RowIs w b C T) (hb : Below w.heap.size w w1) : RowIs w1 b C T := by
  have hl := h.lt
  unfold RowIs at *; rw [hb.block b hl]; exact h
theorem RowIs.set {w : World} {b : Nat} {C : Array Value} {T : TypeId} (h : RowIs w b C T) (o : Nat) (v : Value) : RowIs (w.setCell ⟨b, o, none⟩ v) b (C.setIfInBounds o v) T :=
  heap_setCell_same w b o C T v h
theorem RowIs.new (w : World) (C : Array Value) (T : TypeId) : RowIs (w.alloc (.cells C T)) w.heap.size C T := by
  unfold RowIs; show (w.heap.push _)[w.heap.size]? = _; simp
def FilledS (C : Array Value) (l : List ByteArray) (k : Nat) : Prop := ∀ i (h : i < l.length), i < k → C[i]? = some (.string l[i])
theorem FilledS.set {C : Array Value} {l : List ByteArray} {k : Nat} (h : FilledS C l k) (hk : k < l.length) (hC : C.size = l.length) : FilledS (C.setIfInBounds k (.string l[k])) l (k + 1) := by
  intro i hi hik
  by_cases e : i = k
  · subst e
    have s0 : i < C.size := by omega
    simp [s0]
  · have := h i hi (by omega)
    rw [Array.getElem?_setIfInBounds, if_neg (by omega)]
    exact this
theorem FilledS.row {w : World} {b : Nat} {C : Array Value} {T : TypeId} {l : List ByteArray} (h : FilledS C l l.length) (hr : RowIs w b C T) : StrRow w b 0 l :=
  ⟨hr.lt, fun i hi => by rw [Nat.zero_add, hr.cell]; exact h i hi hi⟩
theorem cell_setOther {w : World} {b b' o o' : Nat} (v : Value) (h : b ≠ b') : (w.setCell ⟨b', o', none⟩ v).cell? ⟨b, o, none⟩ = w.cell? ⟨b, o, none⟩ :=
  World.cell?_of_block (heap_setCell_other w ⟨b', o', none⟩ b v h)
theorem StrRow.setOther {w : World} {b off : Nat} {l : List ByteArray} (hr : StrRow w b off l) {b' o' : Nat} (v : Value) (h : b ≠ b') : StrRow (w.setCell ⟨b', o', none⟩ v) b off l :=
  ⟨by simpa [World.setCell] using hr.z, fun i hi => by rw [cell_setOther v h]; exact hr.c i hi⟩
theorem RowIs.setOther {w : World} {b : Nat} {C : Array Value} {T : TypeId} (h : RowIs w b C T) {b' o' : Nat} (u : Value) (hn : b ≠ b') : RowIs (w.setCell ⟨b', o', none⟩ u) b C T := by
  unfold RowIs at *; rw [heap_setCell_other w ⟨b', o', none⟩ b u hn]; exact h
theorem RowIs.at {w : World} {b : Nat} {C : Array Value} {T : TypeId} (h : RowIs w b C T) {o : Nat} {v : Value} (e : C[o]? = some v) : w.cell? ⟨b, o, none⟩ = some v := by rw [h.cell]; exact e
theorem undrew {w w' : World} (h : Below w.drew.heap.size w.drew w') : Below w.heap.size w w' := ⟨h.os, h.tape, h.output, h.size, h.block⟩

/-- A part: its Attr and its Text. -/
structure PartT where
  a : ByteArray
  t : ByteArray
deriving DecidableEq
structure PartT.Ok (p : PartT) : Prop where
  a9 : p.a.size ≤ maxLen
  t9 : p.t.size ≤ maxLen
structure PartRow (w : World) (b off : Nat) (l : List PartT) : Prop where
  z : b < w.heap.size
  c0 : ∀ i (h : i < l.length), w.cell? ⟨b, off + i * 2, none⟩ = some (.string l[i].a)
  c1 : ∀ i (h : i < l.length), w.cell? ⟨b, off + i * 2 + 1, none⟩ = some (.string l[i].t)
theorem PartRow.keep {w w1 : World} {b off : Nat} {l : List PartT} (h : PartRow w b off l) (hb : Below w.heap.size w w1) : PartRow w1 b off l :=
  ⟨Nat.lt_of_lt_of_le h.z hb.size, fun i hi => cellB hb h.z (h.c0 i hi), fun i hi => cellB hb h.z (h.c1 i hi)⟩
def SlP (w : World) (a : Option Addr) (len : Nat) (l : List PartT) : Prop := len = l.length ∧ (l = [] ∨ ∃ b off, a = some ⟨b, off, none⟩ ∧ PartRow w b off l)
theorem SlP.keep {w w1 : World} {a : Option Addr} {len : Nat} {l : List PartT} (h : SlP w a len l) (hb : Below w.heap.size w w1) : SlP w1 a len l :=
  ⟨h.1, by
    rcases h.2 with e | ⟨b, off, e, r⟩
    · exact .inl e
    · exact .inr ⟨b, off, e, r.keep hb⟩⟩
theorem SlP.at {w : World} {a : Option Addr} {len : Nat} {l : List PartT} (h : SlP w a len l) {k : Nat} (hk : k < len) : ∃ b off, a = some ⟨b, off, none⟩ ∧ PartRow w b off l := by
  rcases h.2 with e | e
  · rw [h.1, e] at hk; simp at hk
  · exact e
theorem PartRow.setOther {w : World} {b off : Nat} {l : List PartT} (hr : PartRow w b off l) {b' o' : Nat} (v : Value) (h : b ≠ b') : PartRow (w.setCell ⟨b', o', none⟩ v) b off l :=
  ⟨by simpa [World.setCell] using hr.z, fun i hi => by rw [cell_setOther v h]; exact hr.c0 i hi, fun i hi => by rw [cell_setOther v h]; exact hr.c1 i hi⟩
/-- The first k parts of l lie in C. -/
def FilledP (C : Array Value) (l : List PartT) (k : Nat) : Prop :=
  ∀ i (h : i < l.length), i < k → C[i * 2]? = some (.string l[i].a) ∧ C[i * 2 + 1]? = some (.string l[i].t)
def set2 (C : Array Value) (k : Nat) (p : PartT) : Array Value := (C.setIfInBounds (k * 2) (.string p.a)).setIfInBounds (k * 2 + 1) (.string p.t)
theorem size_set2 (C : Array Value) (k : Nat) (p : PartT) : (set2 C k p).size = C.size := by simp [set2]
theorem FilledP.set {C : Array Value} {l : List PartT} {k : Nat} (h : FilledP C l k) (hk : k < l.length) (hC : C.size = l.length * 2) : FilledP (set2 C k l[k]) l (k + 1) := by
  intro i hi hik
  unfold set2
  by_cases e : i = k
  · subst e
    have s0 : i * 2 < C.size := by omega
    have s1 : i * 2 + 1 < C.size := by omega
    simp [s0, s1]
  · have := h i hi (by omega)
    simp only [Array.getElem?_setIfInBounds]
    repeat rw [if_neg (by omega)]
    exact this
theorem FilledP.row {w : World} {b : Nat} {C : Array Value} {T : TypeId} {l : List PartT} (h : FilledP C l l.length) (hr : RowIs w b C T) : PartRow w b 0 l :=
  ⟨hr.lt, fun i hi => by rw [Nat.zero_add, hr.cell]; exact (h i hi hi).1, fun i hi => by rw [Nat.zero_add, hr.cell]; exact (h i hi hi).2⟩
def RetB (e : Ending) (p : Prop) : Prop := ∃ b : Bool, e = .returned (.bool b) ∧ (b = true ↔ p)
theorem retB {b : Bool} {p : Prop} (h : b = true ↔ p) : RetB (.returned (.bool b)) p := ⟨b, rfl, h⟩
end Go.Proofs.Ytcajlndbaipcaaa
