/- An event of a recovery by the specification: a vote. -/
import Derived.Test.YtjmpakpodhbbpaaKWk
import Derived.BigRegion
import Derived.Deep.RegionHeld3
import Derived.Deep.AppendLies
import Derived.Deep.RegionLawGrows
namespace Go.Proofs.Ytjmpakpodhbbpaa
set_option linter.unusedSimpArgs false
set_option linter.unusedVariables false
set_option maxRecDepth 20000
open Go.RowKit Go.Maps


theorem l3HasB (a : Option Addr) (len cap : Nat) (l : List ByteArray) (s : ByteArray) (w : World) (hl : len ≤ 1000000) (hs : V.SlS w a len l) :
    Calls Try.prog 36 #[.slice a len cap, .string s] w fun e w' => e = .returned (.bool (memB l s)) ∧ w = w' :=
  (V.l3Has_anyY a len cap l s w hl hs).mono fun e w' ⟨⟨v, h1, h2⟩, hw⟩ => ⟨by rw [h1, show v = memB l s by rw [Bool.eq_iff_iff, h2, memB_iff]], hw⟩
theorem info_strR : (Try.prog.info? 9).map (fun i => (i.zero, i.size, i.bytes)) = some (some (.string ⟨#[]⟩), 1, 16) := by kernel_rfl
set_option maxHeartbeats 4000000 in
theorem sdo_str_true {b : Nat} {x : RcT} {v : Value} (k t : Int) (s : ByteArray) (ha : Option Addr) (hl hc : Nat) (w : World) (h : SpAt w b x v) (g3 : ¬ t < 0) (g4 : ¬ 100000000000 < t) (g5 : (s.toList == []) = true) (hhs : V.SlS w ha hl x.H) (hz : hl ≤ 10) (hvl : x.votes.length < 1000) (hu : x.under = true) (gp : ¬ t < x.now) (gm : memB x.H s = false) : SdoIs x 2 t s b v ha hl hc w := by
  unfold SdoIs
  obtain ⟨va, vc, rfl⟩ : ∃ a c, v = .slice a x.votes.length c := by
    have := own_strs h.own
    obtain ⟨a, c, e, _⟩ := this
    exact ⟨a, c, e⟩
  have EF := hide (show rcFault x 2 t s = 4 from rcF4 (unf_ok (by omega) (by omega) g3 g4 (.inr rfl)) gp (by rw [hu]; rfl) rfl gm)
  have EX := hide (show rcNext x 2 t s = x from rcNext_bad (by rw [unhide EF]; omega))
  obtain ⟨W2, hW2⟩ : ∃ W, W = w.alloc (.cells #[.int .i64 2, .int .i64 t, .string s] 31) := ⟨_, rfl⟩
  have b2 : Below w.heap.size w W2 := by rw [hW2]; exact bAl (Below.refl _ _) _
  have R2 := hide (show RowIs W2 w.heap.size #[.int .i64 2, .int .i64 t, .string s] 31 by rw [hW2]; exact RowIs.new _ _ _)
  have z2 := hide (show W2.heap.size = w.heap.size + 1 by rw [hW2]; simp)
  have h2 := hide (h.keep b2)
  have H0 := hide h
  have nb := h.box.lt
  have B2 := hide b2
  have HW := hide hW2.symm
  have e0 := (unhide R2).at (o := 0) (v := .int .i64 2) rfl
  have e1 := (unhide R2).at (o := 1) (v := .int .i64 t) rfl
  have e2 := (unhide R2).at (o := 2) (v := .string s) rfl
  have ez := (unhide R2).lt
  have c0 := (unhide h2).box.at (o := 0) (v := .int .i64 x.now) rfl
  have c1 := (unhide h2).box.at (o := 1) (v := .bool x.under) rfl
  have c2 := (unhide h2).box.at (o := 2) (v := .int .i64 x.ready) rfl
  have c3 := (unhide h2).box.at (o := 3) (v := .slice va x.votes.length vc) rfl
  have cz := (unhide h2).box.lt
  have f0 := (unhide h2).box.froz 0
  have f1 := (unhide h2).box.froz 1
  have f2 := (unhide h2).box.froz 2
  have f3 := (unhide h2).box.froz 3
  have D2 := hide ((Below.refl W2.heap.size W2).drew.drew)
  have qH := hide (l3HasB ha hl hc x.H s W2.drew.drew (by omega) ((hhs.keep b2).keep (unhide D2)))
  have D3 := hide ((Below.refl W2.heap.size W2).drew.drew.drew)
  have h3 := hide ((unhide h2).keep (unhide D3))
  have r3 := hide ((unhide R2).keep (unhide D3))
  have qV := hide (l3HasB va x.votes.length vc x.votes s W2.drew.drew.drew (by omega) (by
    obtain ⟨a, c, e, hs⟩ := own_strs (unhide h3).own
    cases e
    exact slV hs))
  have HVL := hide hvl
  clear hhs hz hvl
  clear hW2 b2 h
  go_enter Try.func18, Try.ntmps18
  go_upto_region 1 with fail
  rw [unhide HW]
  clear HW
  rw [hu] at c1
  go_wp2_with fail
  go_region
  go_wp2_with fail
  go_region
  go_wp2_with fail
  refine (unhide qH).mono ?_
  rintro e w3 ⟨rfl, rfl⟩
  rw [gm]
  go_wp2_with fail
  go_ret
  rw [unhide EF, unhide EX]
  exact ⟨rfl, SpEnd.same (unhide H0) (unhide B2).drew.drew⟩
set_option maxHeartbeats 4000000 in
theorem sdo_sec_true {b : Nat} {x : RcT} {v : Value} (k t : Int) (s : ByteArray) (ha : Option Addr) (hl hc : Nat) (w : World) (h : SpAt w b x v) (g3 : ¬ t < 0) (g4 : ¬ 100000000000 < t) (g5 : (s.toList == []) = true) (hhs : V.SlS w ha hl x.H) (hz : hl ≤ 10) (hvl : x.votes.length < 1000) (hu : x.under = true) (gp : ¬ t < x.now) (gm : memB x.H s = true) (gv : memB x.votes s = true) : SdoIs x 2 t s b v ha hl hc w := by
  unfold SdoIs
  obtain ⟨va, vc, rfl⟩ : ∃ a c, v = .slice a x.votes.length c := by
    have := own_strs h.own
    obtain ⟨a, c, e, _⟩ := this
    exact ⟨a, c, e⟩
  have EF := hide (show rcFault x 2 t s = 5 from rcF5 (unf_ok (by omega) (by omega) g3 g4 (.inr rfl)) gp (by rw [hu]; rfl) rfl gm gv)
  have EX := hide (show rcNext x 2 t s = x from rcNext_bad (by rw [unhide EF]; omega))
  obtain ⟨W2, hW2⟩ : ∃ W, W = w.alloc (.cells #[.int .i64 2, .int .i64 t, .string s] 31) := ⟨_, rfl⟩
  have b2 : Below w.heap.size w W2 := by rw [hW2]; exact bAl (Below.refl _ _) _
  have R2 := hide (show RowIs W2 w.heap.size #[.int .i64 2, .int .i64 t, .string s] 31 by rw [hW2]; exact RowIs.new _ _ _)
  have z2 := hide (show W2.heap.size = w.heap.size + 1 by rw [hW2]; simp)
  have h2 := hide (h.keep b2)
  have H0 := hide h
  have nb := h.box.lt
  have B2 := hide b2
  have HW := hide hW2.symm
  have e0 := (unhide R2).at (o := 0) (v := .int .i64 2) rfl
  have e1 := (unhide R2).at (o := 1) (v := .int .i64 t) rfl
  have e2 := (unhide R2).at (o := 2) (v := .string s) rfl
  have ez := (unhide R2).lt
  have c0 := (unhide h2).box.at (o := 0) (v := .int .i64 x.now) rfl
  have c1 := (unhide h2).box.at (o := 1) (v := .bool x.under) rfl
  have c2 := (unhide h2).box.at (o := 2) (v := .int .i64 x.ready) rfl
  have c3 := (unhide h2).box.at (o := 3) (v := .slice va x.votes.length vc) rfl
  have cz := (unhide h2).box.lt
  have f0 := (unhide h2).box.froz 0
  have f1 := (unhide h2).box.froz 1
  have f2 := (unhide h2).box.froz 2
  have f3 := (unhide h2).box.froz 3
  have D2 := hide ((Below.refl W2.heap.size W2).drew.drew)
  have qH := hide (l3HasB ha hl hc x.H s W2.drew.drew (by omega) ((hhs.keep b2).keep (unhide D2)))
  have D3 := hide ((Below.refl W2.heap.size W2).drew.drew.drew)
  have h3 := hide ((unhide h2).keep (unhide D3))
  have r3 := hide ((unhide R2).keep (unhide D3))
  have qV := hide (l3HasB va x.votes.length vc x.votes s W2.drew.drew.drew (by omega) (by
    obtain ⟨a, c, e, hs⟩ := own_strs (unhide h3).own
    cases e
    exact slV hs))
  have HVL := hide hvl
  clear hhs hz hvl
  clear hW2 b2 h
  go_enter Try.func18, Try.ntmps18
  go_upto_region 1 with fail
  rw [unhide HW]
  clear HW
  rw [hu] at c1
  go_wp2_with fail
  go_region
  go_wp2_with fail
  go_region
  go_wp2_with fail
  refine (unhide qH).mono ?_
  rintro e w3 ⟨rfl, rfl⟩
  rw [gm]
  go_wp2_with fail
  go_region_held3 (fun Z => Z.cell? ⟨b, 3, none⟩ = some (.slice va x.votes.length vc) ∧ Z.cell? ⟨w.heap.size, 2, none⟩ = some (.string s))
    (first
      | exact ⟨(unhide h3).box.at rfl, (unhide r3).at rfl⟩)
    (first
      | (go_at_call 36; (with_reducible refine (unhide qV).mono ?_); rintro e w4 ⟨rfl, rfl⟩))
  try rw [gv]
  go_wp2_with fail
  go_ret
  rw [unhide EF, unhide EX]
  exact ⟨rfl, SpEnd.same (unhide H0) (unhide B2).drew.drew.drew⟩
set_option maxHeartbeats 4000000 in
theorem sdo_str_false {b : Nat} {x : RcT} {v : Value} (k t : Int) (s : ByteArray) (ha : Option Addr) (hl hc : Nat) (w : World) (h : SpAt w b x v) (g3 : ¬ t < 0) (g4 : ¬ 100000000000 < t) (g5 : (s.toList == []) = false) (hhs : V.SlS w ha hl x.H) (hz : hl ≤ 10) (hvl : x.votes.length < 1000) (hu : x.under = true) (gp : ¬ t < x.now) (gm : memB x.H s = false) : SdoIs x 2 t s b v ha hl hc w := by
  unfold SdoIs
  obtain ⟨va, vc, rfl⟩ : ∃ a c, v = .slice a x.votes.length c := by
    have := own_strs h.own
    obtain ⟨a, c, e, _⟩ := this
    exact ⟨a, c, e⟩
  have EF := hide (show rcFault x 2 t s = 4 from rcF4 (unf_ok (by omega) (by omega) g3 g4 (.inr rfl)) gp (by rw [hu]; rfl) rfl gm)
  have EX := hide (show rcNext x 2 t s = x from rcNext_bad (by rw [unhide EF]; omega))
  obtain ⟨W2, hW2⟩ : ∃ W, W = w.alloc (.cells #[.int .i64 2, .int .i64 t, .string s] 31) := ⟨_, rfl⟩
  have b2 : Below w.heap.size w W2 := by rw [hW2]; exact bAl (Below.refl _ _) _
  have R2 := hide (show RowIs W2 w.heap.size #[.int .i64 2, .int .i64 t, .string s] 31 by rw [hW2]; exact RowIs.new _ _ _)
  have z2 := hide (show W2.heap.size = w.heap.size + 1 by rw [hW2]; simp)
  have h2 := hide (h.keep b2)
  have H0 := hide h
  have nb := h.box.lt
  have B2 := hide b2
  have HW := hide hW2.symm
  have e0 := (unhide R2).at (o := 0) (v := .int .i64 2) rfl
  have e1 := (unhide R2).at (o := 1) (v := .int .i64 t) rfl
  have e2 := (unhide R2).at (o := 2) (v := .string s) rfl
  have ez := (unhide R2).lt
  have c0 := (unhide h2).box.at (o := 0) (v := .int .i64 x.now) rfl
  have c1 := (unhide h2).box.at (o := 1) (v := .bool x.under) rfl
  have c2 := (unhide h2).box.at (o := 2) (v := .int .i64 x.ready) rfl
  have c3 := (unhide h2).box.at (o := 3) (v := .slice va x.votes.length vc) rfl
  have cz := (unhide h2).box.lt
  have f0 := (unhide h2).box.froz 0
  have f1 := (unhide h2).box.froz 1
  have f2 := (unhide h2).box.froz 2
  have f3 := (unhide h2).box.froz 3
  have D2 := hide ((Below.refl W2.heap.size W2).drew.drew)
  have qH := hide (l3HasB ha hl hc x.H s W2.drew.drew (by omega) ((hhs.keep b2).keep (unhide D2)))
  have D3 := hide ((Below.refl W2.heap.size W2).drew.drew.drew)
  have h3 := hide ((unhide h2).keep (unhide D3))
  have r3 := hide ((unhide R2).keep (unhide D3))
  have qV := hide (l3HasB va x.votes.length vc x.votes s W2.drew.drew.drew (by omega) (by
    obtain ⟨a, c, e, hs⟩ := own_strs (unhide h3).own
    cases e
    exact slV hs))
  have HVL := hide hvl
  clear hhs hz hvl
  clear hW2 b2 h
  go_enter Try.func18, Try.ntmps18
  go_upto_region 1 with fail
  rw [unhide HW]
  clear HW
  rw [hu] at c1
  go_wp2_with fail
  go_region
  go_wp2_with fail
  go_region
  go_wp2_with fail
  refine (unhide qH).mono ?_
  rintro e w3 ⟨rfl, rfl⟩
  rw [gm]
  go_wp2_with fail
  go_ret
  rw [unhide EF, unhide EX]
  exact ⟨rfl, SpEnd.same (unhide H0) (unhide B2).drew.drew⟩
set_option maxHeartbeats 4000000 in
theorem sdo_sec_false {b : Nat} {x : RcT} {v : Value} (k t : Int) (s : ByteArray) (ha : Option Addr) (hl hc : Nat) (w : World) (h : SpAt w b x v) (g3 : ¬ t < 0) (g4 : ¬ 100000000000 < t) (g5 : (s.toList == []) = false) (hhs : V.SlS w ha hl x.H) (hz : hl ≤ 10) (hvl : x.votes.length < 1000) (hu : x.under = true) (gp : ¬ t < x.now) (gm : memB x.H s = true) (gv : memB x.votes s = true) : SdoIs x 2 t s b v ha hl hc w := by
  unfold SdoIs
  obtain ⟨va, vc, rfl⟩ : ∃ a c, v = .slice a x.votes.length c := by
    have := own_strs h.own
    obtain ⟨a, c, e, _⟩ := this
    exact ⟨a, c, e⟩
  have EF := hide (show rcFault x 2 t s = 5 from rcF5 (unf_ok (by omega) (by omega) g3 g4 (.inr rfl)) gp (by rw [hu]; rfl) rfl gm gv)
  have EX := hide (show rcNext x 2 t s = x from rcNext_bad (by rw [unhide EF]; omega))
  obtain ⟨W2, hW2⟩ : ∃ W, W = w.alloc (.cells #[.int .i64 2, .int .i64 t, .string s] 31) := ⟨_, rfl⟩
  have b2 : Below w.heap.size w W2 := by rw [hW2]; exact bAl (Below.refl _ _) _
  have R2 := hide (show RowIs W2 w.heap.size #[.int .i64 2, .int .i64 t, .string s] 31 by rw [hW2]; exact RowIs.new _ _ _)
  have z2 := hide (show W2.heap.size = w.heap.size + 1 by rw [hW2]; simp)
  have h2 := hide (h.keep b2)
  have H0 := hide h
  have nb := h.box.lt
  have B2 := hide b2
  have HW := hide hW2.symm
  have e0 := (unhide R2).at (o := 0) (v := .int .i64 2) rfl
  have e1 := (unhide R2).at (o := 1) (v := .int .i64 t) rfl
  have e2 := (unhide R2).at (o := 2) (v := .string s) rfl
  have ez := (unhide R2).lt
  have c0 := (unhide h2).box.at (o := 0) (v := .int .i64 x.now) rfl
  have c1 := (unhide h2).box.at (o := 1) (v := .bool x.under) rfl
  have c2 := (unhide h2).box.at (o := 2) (v := .int .i64 x.ready) rfl
  have c3 := (unhide h2).box.at (o := 3) (v := .slice va x.votes.length vc) rfl
  have cz := (unhide h2).box.lt
  have f0 := (unhide h2).box.froz 0
  have f1 := (unhide h2).box.froz 1
  have f2 := (unhide h2).box.froz 2
  have f3 := (unhide h2).box.froz 3
  have D2 := hide ((Below.refl W2.heap.size W2).drew.drew)
  have qH := hide (l3HasB ha hl hc x.H s W2.drew.drew (by omega) ((hhs.keep b2).keep (unhide D2)))
  have D3 := hide ((Below.refl W2.heap.size W2).drew.drew.drew)
  have h3 := hide ((unhide h2).keep (unhide D3))
  have r3 := hide ((unhide R2).keep (unhide D3))
  have qV := hide (l3HasB va x.votes.length vc x.votes s W2.drew.drew.drew (by omega) (by
    obtain ⟨a, c, e, hs⟩ := own_strs (unhide h3).own
    cases e
    exact slV hs))
  have HVL := hide hvl
  clear hhs hz hvl
  clear hW2 b2 h
  go_enter Try.func18, Try.ntmps18
  go_upto_region 1 with fail
  rw [unhide HW]
  clear HW
  rw [hu] at c1
  go_wp2_with fail
  go_region
  go_wp2_with fail
  go_region
  go_wp2_with fail
  refine (unhide qH).mono ?_
  rintro e w3 ⟨rfl, rfl⟩
  rw [gm]
  go_wp2_with fail
  go_region_held3 (fun Z => Z.cell? ⟨b, 3, none⟩ = some (.slice va x.votes.length vc) ∧ Z.cell? ⟨w.heap.size, 2, none⟩ = some (.string s))
    (first
      | exact ⟨(unhide h3).box.at rfl, (unhide r3).at rfl⟩)
    (first
      | (go_at_call 36; (with_reducible refine (unhide qV).mono ?_); rintro e w4 ⟨rfl, rfl⟩))
  try rw [gv]
  go_wp2_with fail
  go_ret
  rw [unhide EF, unhide EX]
  exact ⟨rfl, SpEnd.same (unhide H0) (unhide B2).drew.drew.drew⟩
set_option maxHeartbeats 4000000 in
theorem sdo_vote_true {b : Nat} {x : RcT} {v : Value} (k t : Int) (s : ByteArray) (ha : Option Addr) (hl hc : Nat) (w : World) (h : SpAt w b x v) (g3 : ¬ t < 0) (g4 : ¬ 100000000000 < t) (g5 : (s.toList == []) = true) (hhs : V.SlS w ha hl x.H) (hz : hl ≤ 10) (hvl : x.votes.length < 1000) (hu : x.under = true) (gp : ¬ t < x.now) (gm : memB x.H s = true) (gv : memB x.votes s = false) : SdoIs x 2 t s b v ha hl hc w := by
  unfold SdoIs
  obtain ⟨va, vc, rfl⟩ : ∃ a c, v = .slice a x.votes.length c := by
    have := own_strs h.own
    obtain ⟨a, c, e, _⟩ := this
    exact ⟨a, c, e⟩
  have EF := hide (show rcFault x 2 t s = 0 from rcF0 (unf_ok (by omega) (by omega) g3 g4 (.inr rfl)) gp (by rw [hu]; rfl) (fun _ => ⟨gm, gv⟩) (by omega))
  obtain ⟨W2, hW2⟩ : ∃ W, W = w.alloc (.cells #[.int .i64 2, .int .i64 t, .string s] 31) := ⟨_, rfl⟩
  have b2 : Below w.heap.size w W2 := by rw [hW2]; exact bAl (Below.refl _ _) _
  have R2 := hide (show RowIs W2 w.heap.size #[.int .i64 2, .int .i64 t, .string s] 31 by rw [hW2]; exact RowIs.new _ _ _)
  have z2 := hide (show W2.heap.size = w.heap.size + 1 by rw [hW2]; simp)
  have h2 := hide (h.keep b2)
  have H0 := hide h
  have nb := h.box.lt
  have B2 := hide b2
  have HW := hide hW2.symm
  have e0 := (unhide R2).at (o := 0) (v := .int .i64 2) rfl
  have e1 := (unhide R2).at (o := 1) (v := .int .i64 t) rfl
  have e2 := (unhide R2).at (o := 2) (v := .string s) rfl
  have ez := (unhide R2).lt
  have c0 := (unhide h2).box.at (o := 0) (v := .int .i64 x.now) rfl
  have c1 := (unhide h2).box.at (o := 1) (v := .bool x.under) rfl
  have c2 := (unhide h2).box.at (o := 2) (v := .int .i64 x.ready) rfl
  have c3 := (unhide h2).box.at (o := 3) (v := .slice va x.votes.length vc) rfl
  have cz := (unhide h2).box.lt
  have f0 := (unhide h2).box.froz 0
  have f1 := (unhide h2).box.froz 1
  have f2 := (unhide h2).box.froz 2
  have f3 := (unhide h2).box.froz 3
  have D2 := hide ((Below.refl W2.heap.size W2).drew.drew)
  have qH := hide (l3HasB ha hl hc x.H s W2.drew.drew (by omega) ((hhs.keep b2).keep (unhide D2)))
  have D3 := hide ((Below.refl W2.heap.size W2).drew.drew.drew)
  have h3 := hide ((unhide h2).keep (unhide D3))
  have r3 := hide ((unhide R2).keep (unhide D3))
  have qV := hide (l3HasB va x.votes.length vc x.votes s W2.drew.drew.drew (by omega) (by
    obtain ⟨a, c, e, hs⟩ := own_strs (unhide h3).own
    cases e
    exact slV hs))
  have HVL := hide hvl
  clear hhs hz hvl
  clear hW2 b2 h
  go_enter Try.func18, Try.ntmps18
  go_upto_region 1 with fail
  rw [unhide HW]
  clear HW
  rw [hu] at c1
  go_wp2_with fail
  go_region
  go_wp2_with fail
  go_region
  go_wp2_with fail
  refine (unhide qH).mono ?_
  rintro e w3 ⟨rfl, rfl⟩
  rw [gm]
  go_wp2_with fail
  go_region_held3 (fun Z => Z.cell? ⟨b, 3, none⟩ = some (.slice va x.votes.length vc) ∧ Z.cell? ⟨w.heap.size, 2, none⟩ = some (.string s))
    (first
      | exact ⟨(unhide h3).box.at rfl, (unhide r3).at rfl⟩)
    (first
      | (go_at_call 36; (with_reducible refine (unhide qV).mono ?_); rintro e w4 ⟨rfl, rfl⟩))
  try rw [gv]
  go_wp2_with fail
  have EX := hide (rcNext_vote (x := x) (k := 2) (t := t) (s := s) (unhide EF) rfl)
  have BL := hide (bTr (unhide B2) (unhide D3))
  have LG := hide (unhide H0).own.lt
  obtain ⟨WL, hWL⟩ : ∃ W, W2.drew.drew.drew = W := ⟨_, rfl⟩
  rw [hWL] at h3 r3 BL ⊢
  clear hWL qV qH D2 D3 c0 c1 c2 c3 cz f0 f1 f2 f3 e0 e1 e2 ez z2 h2 R2 B2
  obtain ⟨i1, gi, hzz⟩ := Option.map_eq_some_iff.1 info_strR
  simp only [Prod.mk.injEq] at hzz
  obtain ⟨gz0, gz1, gz2⟩ := hzz
  have c3 := (unhide h3).box.at (o := 3) (v := .slice va x.votes.length vc) rfl
  have f3 := (unhide h3).box.froz 3
  have e2 := (unhide r3).at (o := 2) (v := .string s) rfl
  have zb := (unhide h3).box.lt
  have t2 := hide (cell_one_new WL.drew (.string s) 9)
  have VLE := unhide HVL
  have t5 : (x.votes.length + 1) * 16 ≤ 140737488355328 := by omega
  have n1 : ∀ g, (Value.slice va x.votes.length vc).ownBlock = some g → g ≠ b ∧ g ≠ w.heap.size := fun g e => by have h1 := unhide LG g e; constructor <;> omega
  have N1 := hide n1
  clear n1
  go_region_law
    (first
      | (refine step_append_lies _ (by rfl) _ _ _ (by rfl) (b + 1) 9 i1 _ 1 16 Try.underlying23 gi gz0 gz1 gz2 rfl (by omega) (.slice va x.votes.length vc) x.votes.length (x.votes.map Value.string) (by rfl) ((unhide h3).own.drew.alloc _) ⟨WL.heap.size, 0, none⟩ 1 1 [.string s] (by rfl) (by rfl) (unhide t2) (fun x hx => by simp at hx; subst hx; rfl) (by omega) (by unfold maxLen; omega) t5 (by simp; omega) (WL.heap.size + 1) (by simp) ?_; intro g4 cv4 w4 hown4 hgrow4 hat4 hlt4; have R4 := hide (row_grown ((unhide h3).box.keep (bAl (Below.refl _ _) (.cells #[.string s] 9)).drew) hgrow4 (fun e => (unhide N1 _ e.symm).1 rfl)); have E4 := hide (row_grown ((unhide r3).keep (bAl (Below.refl _ _) (.cells #[.string s] 9)).drew) hgrow4 (fun e => (unhide N1 _ e.symm).2 rfl)); have d3 := (unhide R4).at (o := 3) (v := .slice va x.votes.length vc) rfl; have h6 := (unhide R4).froz 3; have z4 := (unhide R4).lt))
  all_goals
    have e1 := (unhide E4).at (o := 1) (v := .int .i64 t) rfl
    have ez := (unhide E4).lt
    have d0 := (unhide R4).at (o := 0) (v := .int .i64 x.now) rfl
    have h0 := (unhide R4).froz 0
    clear c3 f3 e2 zb t2
    go_wp2_with fail
    go_ret
    rw [unhide EF, unhide EX]
    have bw : Below w.heap.size w (WL.alloc (.cells #[.string s] 9)).drew := (bAl (unhide BL) _).drew
    refine ⟨rfl, ⟨⟨_, ⟨((unhide R4).set 3 _).set 0 _, ?_⟩, fun g e => ?_⟩, (((TcS.of bw).trans (TcS.grown hgrow4) (fun g e => .inl e)).trans (TcS.setB b (.slice va x.votes.length vc) _ _ _) (fun g e => .inl e)).trans (TcS.setB b (.slice va x.votes.length vc) _ _ _) (fun g e => .inl e)⟩⟩
    · have := own_box (own_box hown4 3 (.slice (some ⟨g4, 0, none⟩) (x.votes.length + 1) cv4)) 0 (.int .i64 t)
      simpa using this
    · cases e
      rcases hat4 with h | h
      · exact .inl h
      · have := (unhide BL).size
        right; show w.heap.size ≤ g4; omega
set_option maxHeartbeats 4000000 in
theorem sdo_vote_false {b : Nat} {x : RcT} {v : Value} (k t : Int) (s : ByteArray) (ha : Option Addr) (hl hc : Nat) (w : World) (h : SpAt w b x v) (g3 : ¬ t < 0) (g4 : ¬ 100000000000 < t) (g5 : (s.toList == []) = false) (hhs : V.SlS w ha hl x.H) (hz : hl ≤ 10) (hvl : x.votes.length < 1000) (hu : x.under = true) (gp : ¬ t < x.now) (gm : memB x.H s = true) (gv : memB x.votes s = false) : SdoIs x 2 t s b v ha hl hc w := by
  unfold SdoIs
  obtain ⟨va, vc, rfl⟩ : ∃ a c, v = .slice a x.votes.length c := by
    have := own_strs h.own
    obtain ⟨a, c, e, _⟩ := this
    exact ⟨a, c, e⟩
  have EF := hide (show rcFault x 2 t s = 0 from rcF0 (unf_ok (by omega) (by omega) g3 g4 (.inr rfl)) gp (by rw [hu]; rfl) (fun _ => ⟨gm, gv⟩) (by omega))
  obtain ⟨W2, hW2⟩ : ∃ W, W = w.alloc (.cells #[.int .i64 2, .int .i64 t, .string s] 31) := ⟨_, rfl⟩
  have b2 : Below w.heap.size w W2 := by rw [hW2]; exact bAl (Below.refl _ _) _
  have R2 := hide (show RowIs W2 w.heap.size #[.int .i64 2, .int .i64 t, .string s] 31 by rw [hW2]; exact RowIs.new _ _ _)
  have z2 := hide (show W2.heap.size = w.heap.size + 1 by rw [hW2]; simp)
  have h2 := hide (h.keep b2)
  have H0 := hide h
  have nb := h.box.lt
  have B2 := hide b2
  have HW := hide hW2.symm
  have e0 := (unhide R2).at (o := 0) (v := .int .i64 2) rfl
  have e1 := (unhide R2).at (o := 1) (v := .int .i64 t) rfl
  have e2 := (unhide R2).at (o := 2) (v := .string s) rfl
  have ez := (unhide R2).lt
  have c0 := (unhide h2).box.at (o := 0) (v := .int .i64 x.now) rfl
  have c1 := (unhide h2).box.at (o := 1) (v := .bool x.under) rfl
  have c2 := (unhide h2).box.at (o := 2) (v := .int .i64 x.ready) rfl
  have c3 := (unhide h2).box.at (o := 3) (v := .slice va x.votes.length vc) rfl
  have cz := (unhide h2).box.lt
  have f0 := (unhide h2).box.froz 0
  have f1 := (unhide h2).box.froz 1
  have f2 := (unhide h2).box.froz 2
  have f3 := (unhide h2).box.froz 3
  have D2 := hide ((Below.refl W2.heap.size W2).drew.drew)
  have qH := hide (l3HasB ha hl hc x.H s W2.drew.drew (by omega) ((hhs.keep b2).keep (unhide D2)))
  have D3 := hide ((Below.refl W2.heap.size W2).drew.drew.drew)
  have h3 := hide ((unhide h2).keep (unhide D3))
  have r3 := hide ((unhide R2).keep (unhide D3))
  have qV := hide (l3HasB va x.votes.length vc x.votes s W2.drew.drew.drew (by omega) (by
    obtain ⟨a, c, e, hs⟩ := own_strs (unhide h3).own
    cases e
    exact slV hs))
  have HVL := hide hvl
  clear hhs hz hvl
  clear hW2 b2 h
  go_enter Try.func18, Try.ntmps18
  go_upto_region 1 with fail
  rw [unhide HW]
  clear HW
  rw [hu] at c1
  go_wp2_with fail
  go_region
  go_wp2_with fail
  go_region
  go_wp2_with fail
  refine (unhide qH).mono ?_
  rintro e w3 ⟨rfl, rfl⟩
  rw [gm]
  go_wp2_with fail
  go_region_held3 (fun Z => Z.cell? ⟨b, 3, none⟩ = some (.slice va x.votes.length vc) ∧ Z.cell? ⟨w.heap.size, 2, none⟩ = some (.string s))
    (first
      | exact ⟨(unhide h3).box.at rfl, (unhide r3).at rfl⟩)
    (first
      | (go_at_call 36; (with_reducible refine (unhide qV).mono ?_); rintro e w4 ⟨rfl, rfl⟩))
  try rw [gv]
  go_wp2_with fail
  have EX := hide (rcNext_vote (x := x) (k := 2) (t := t) (s := s) (unhide EF) rfl)
  have BL := hide (bTr (unhide B2) (unhide D3))
  have LG := hide (unhide H0).own.lt
  obtain ⟨WL, hWL⟩ : ∃ W, W2.drew.drew.drew = W := ⟨_, rfl⟩
  rw [hWL] at h3 r3 BL ⊢
  clear hWL qV qH D2 D3 c0 c1 c2 c3 cz f0 f1 f2 f3 e0 e1 e2 ez z2 h2 R2 B2
  obtain ⟨i1, gi, hzz⟩ := Option.map_eq_some_iff.1 info_strR
  simp only [Prod.mk.injEq] at hzz
  obtain ⟨gz0, gz1, gz2⟩ := hzz
  have c3 := (unhide h3).box.at (o := 3) (v := .slice va x.votes.length vc) rfl
  have f3 := (unhide h3).box.froz 3
  have e2 := (unhide r3).at (o := 2) (v := .string s) rfl
  have zb := (unhide h3).box.lt
  have t2 := hide (cell_one_new WL.drew (.string s) 9)
  have VLE := unhide HVL
  have t5 : (x.votes.length + 1) * 16 ≤ 140737488355328 := by omega
  have n1 : ∀ g, (Value.slice va x.votes.length vc).ownBlock = some g → g ≠ b ∧ g ≠ w.heap.size := fun g e => by have h1 := unhide LG g e; constructor <;> omega
  have N1 := hide n1
  clear n1
  go_region_law
    (first
      | (refine step_append_lies _ (by rfl) _ _ _ (by rfl) (b + 1) 9 i1 _ 1 16 Try.underlying23 gi gz0 gz1 gz2 rfl (by omega) (.slice va x.votes.length vc) x.votes.length (x.votes.map Value.string) (by rfl) ((unhide h3).own.drew.alloc _) ⟨WL.heap.size, 0, none⟩ 1 1 [.string s] (by rfl) (by rfl) (unhide t2) (fun x hx => by simp at hx; subst hx; rfl) (by omega) (by unfold maxLen; omega) t5 (by simp; omega) (WL.heap.size + 1) (by simp) ?_; intro g4 cv4 w4 hown4 hgrow4 hat4 hlt4; have R4 := hide (row_grown ((unhide h3).box.keep (bAl (Below.refl _ _) (.cells #[.string s] 9)).drew) hgrow4 (fun e => (unhide N1 _ e.symm).1 rfl)); have E4 := hide (row_grown ((unhide r3).keep (bAl (Below.refl _ _) (.cells #[.string s] 9)).drew) hgrow4 (fun e => (unhide N1 _ e.symm).2 rfl)); have d3 := (unhide R4).at (o := 3) (v := .slice va x.votes.length vc) rfl; have h6 := (unhide R4).froz 3; have z4 := (unhide R4).lt))
  all_goals
    have e1 := (unhide E4).at (o := 1) (v := .int .i64 t) rfl
    have ez := (unhide E4).lt
    have d0 := (unhide R4).at (o := 0) (v := .int .i64 x.now) rfl
    have h0 := (unhide R4).froz 0
    clear c3 f3 e2 zb t2
    go_wp2_with fail
    go_ret
    rw [unhide EF, unhide EX]
    have bw : Below w.heap.size w (WL.alloc (.cells #[.string s] 9)).drew := (bAl (unhide BL) _).drew
    refine ⟨rfl, ⟨⟨_, ⟨((unhide R4).set 3 _).set 0 _, ?_⟩, fun g e => ?_⟩, (((TcS.of bw).trans (TcS.grown hgrow4) (fun g e => .inl e)).trans (TcS.setB b (.slice va x.votes.length vc) _ _ _) (fun g e => .inl e)).trans (TcS.setB b (.slice va x.votes.length vc) _ _ _) (fun g e => .inl e)⟩⟩
    · have := own_box (own_box hown4 3 (.slice (some ⟨g4, 0, none⟩) (x.votes.length + 1) cv4)) 0 (.int .i64 t)
      simpa using this
    · cases e
      rcases hat4 with h | h
      · exact .inl h
      · have := (unhide BL).size
        right; show w.heap.size ≤ g4; omega
end Go.Proofs.Ytjmpakpodhbbpaa
