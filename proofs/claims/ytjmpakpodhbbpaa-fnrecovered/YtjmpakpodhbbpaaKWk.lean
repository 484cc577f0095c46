/- An event of a recovery by the specification: what is done. -/
import Derived.Test.YtjmpakpodhbbpaaKWj
import Derived.BigRegion
import Derived.Deep.RegionHeld3
import Derived.Deep.AppendLies
import Derived.Deep.RegionLawGrows
namespace Go.Proofs.Ytjmpakpodhbbpaa
set_option linter.unusedSimpArgs false
set_option linter.unusedVariables false
set_option maxRecDepth 20000
open Go.RowKit Go.Maps


theorem drw3 {w w' : World} (h : Below w.heap.size w w') : Below w.heap.size w w'.drew.drew := h.drew.drew
set_option maxHeartbeats 4000000 in
theorem sdo_ask {b : Nat} {x : RcT} {v : Value} (k t : Int) (s : ByteArray) (ha : Option Addr) (hl hc : Nat) (w : World) (h : SpAt w b x v) (g3 : ¬ t < 0) (g4 : ¬ 100000000000 < t) (g5 : (s.toList == []) = true) (gp : ¬ t < x.now) (hu : x.under = false) (hd : 0 ≤ x.delay ∧ x.delay ≤ 100000000000) : SdoIs x 1 t s b v ha hl hc w := by
  unfold SdoIs
  have EF := hide (show rcFault x 1 t s = 0 from rcF0 (unf_ok (by omega) (by omega) g3 g4 (.inl g5)) gp (by rw [hu]; rfl) (by omega) (by omega))
  obtain ⟨W2, hW2⟩ : ∃ W, W = w.alloc (.cells #[.int .i64 1, .int .i64 t, .string s] 31) := ⟨_, rfl⟩
  have b2 : Below w.heap.size w W2 := by rw [hW2]; exact bAl (Below.refl _ _) _
  have R2 := hide (show RowIs W2 w.heap.size #[.int .i64 1, .int .i64 t, .string s] 31 by rw [hW2]; exact RowIs.new _ _ _)
  have z2 := hide (show W2.heap.size = w.heap.size + 1 by rw [hW2]; simp)
  have h2 := hide (h.keep b2)
  have H0 := hide h
  have nb := h.box.lt
  have B2 := hide b2
  have HW := hide hW2.symm
  have e0 := (unhide R2).at (o := 0) (v := .int .i64 1) rfl
  have e1 := (unhide R2).at (o := 1) (v := .int .i64 t) rfl
  have e2 := (unhide R2).at (o := 2) (v := .string s) rfl
  have ez := (unhide R2).lt
  have c0 := (unhide h2).box.at (o := 0) (v := .int .i64 x.now) rfl
  have c1 := (unhide h2).box.at (o := 1) (v := .bool x.under) rfl
  have c2 := (unhide h2).box.at (o := 2) (v := .int .i64 x.ready) rfl
  have c3 := (unhide h2).box.at (o := 3) (v := v) rfl
  have cz := (unhide h2).box.lt
  have f0 := (unhide h2).box.froz 0
  have f1 := (unhide h2).box.froz 1
  have f2 := (unhide h2).box.froz 2
  have f3 := (unhide h2).box.froz 3
  clear hW2 b2 h
  go_enter Try.func18, Try.ntmps18
  go_upto_region 1 with fail
  rw [unhide HW]
  clear HW
  have EX := hide (rcNext_ask (x := x) (k := 1) (t := t) (s := s) (unhide EF) rfl)
  have hw : wrap64 (t + x.delay) = t + x.delay := Go.IntWalk.wrap64_in _ (by omega)
  rw [hu] at c1
  go_wp2_with fail
  go_region
  go_wp2_with fail
  go_region
  go_wp2_with fail
  go_ret
  rw [unhide EF, unhide EX]
  have hd := (unhide H0).keep (unhide B2)
  exact ⟨rfl, ⟨⟨.slice none 0 0, SpAt.keep ⟨((((hd.box.set 1 _).set 2 _).set 3 _).set 0 _), World.ownsRow_nil _ _ _ _⟩ (Below.refl _ _).drew.drew, fun g e => by cases e⟩, (((((TcS.of (unhide B2)).trans (TcS.setB b v _ _ _) (fun g e => .inl e)).trans (TcS.setB b v _ _ _) (fun g e => .inl e)).trans (TcS.setB b v _ _ _) (fun g e => .inl e)).trans (TcS.setB b v _ _ _) (fun g e => .inl e)).trans (TcS.of (Below.refl _ _).drew.drew) (fun g e => .inl e)⟩⟩
set_option maxHeartbeats 4000000 in
theorem sdo_stop {b : Nat} {x : RcT} {v : Value} (k t : Int) (s : ByteArray) (ha : Option Addr) (hl hc : Nat) (w : World) (h : SpAt w b x v) (g3 : ¬ t < 0) (g4 : ¬ 100000000000 < t) (g5 : (s.toList == []) = true) (gp : ¬ t < x.now) (hu : x.under = true) : SdoIs x 3 t s b v ha hl hc w := by
  unfold SdoIs
  have EF := hide (show rcFault x 3 t s = 0 from rcF0 (unf_ok (by omega) (by omega) g3 g4 (.inl g5)) gp (by rw [hu]; rfl) (by omega) (by omega))
  obtain ⟨W2, hW2⟩ : ∃ W, W = w.alloc (.cells #[.int .i64 3, .int .i64 t, .string s] 31) := ⟨_, rfl⟩
  have b2 : Below w.heap.size w W2 := by rw [hW2]; exact bAl (Below.refl _ _) _
  have R2 := hide (show RowIs W2 w.heap.size #[.int .i64 3, .int .i64 t, .string s] 31 by rw [hW2]; exact RowIs.new _ _ _)
  have z2 := hide (show W2.heap.size = w.heap.size + 1 by rw [hW2]; simp)
  have h2 := hide (h.keep b2)
  have H0 := hide h
  have nb := h.box.lt
  have B2 := hide b2
  have HW := hide hW2.symm
  have e0 := (unhide R2).at (o := 0) (v := .int .i64 3) rfl
  have e1 := (unhide R2).at (o := 1) (v := .int .i64 t) rfl
  have e2 := (unhide R2).at (o := 2) (v := .string s) rfl
  have ez := (unhide R2).lt
  have c0 := (unhide h2).box.at (o := 0) (v := .int .i64 x.now) rfl
  have c1 := (unhide h2).box.at (o := 1) (v := .bool x.under) rfl
  have c2 := (unhide h2).box.at (o := 2) (v := .int .i64 x.ready) rfl
  have c3 := (unhide h2).box.at (o := 3) (v := v) rfl
  have cz := (unhide h2).box.lt
  have f0 := (unhide h2).box.froz 0
  have f1 := (unhide h2).box.froz 1
  have f2 := (unhide h2).box.froz 2
  have f3 := (unhide h2).box.froz 3
  clear hW2 b2 h
  go_enter Try.func18, Try.ntmps18
  go_upto_region 1 with fail
  rw [unhide HW]
  clear HW
  have EX := hide (rcNext_else (x := x) (k := 3) (t := t) (s := s) (unhide EF) (by omega) (by omega))
  rw [hu] at c1
  go_wp2_with fail
  go_region
  go_wp2_with fail
  go_region
  go_wp2_with fail
  go_ret
  rw [unhide EF, unhide EX]
  have hd := (unhide H0).keep (unhide B2)
  exact ⟨rfl, ⟨⟨v, SpAt.keep ⟨((hd.box.set 1 _).set 0 _), own_box (own_box hd.own _ _) _ _⟩ (Below.refl _ _).drew.drew, fun g e => .inl e⟩, (((TcS.of (unhide B2)).trans (TcS.setB b v _ _ _) (fun g e => .inl e)).trans (TcS.setB b v _ _ _) (fun g e => .inl e)).trans (TcS.of (Below.refl _ _).drew.drew) (fun g e => .inl e)⟩⟩
set_option maxHeartbeats 4000000 in
theorem sdo_lack {b : Nat} {x : RcT} {v : Value} (k t : Int) (s : ByteArray) (ha : Option Addr) (hl hc : Nat) (w : World) (h : SpAt w b x v) (g3 : ¬ t < 0) (g4 : ¬ 100000000000 < t) (g5 : (s.toList == []) = true) (gp : ¬ t < x.now) (hu : x.under = true) (gv : (x.votes.length : Int) < x.need) : SdoIs x 4 t s b v ha hl hc w := by
  unfold SdoIs
  obtain ⟨va, vc, rfl⟩ : ∃ a c, v = .slice a x.votes.length c := by
    have := own_strs h.own
    obtain ⟨a, c, e, _⟩ := this
    exact ⟨a, c, e⟩
  have EF := hide (show rcFault x 4 t s = 6 from rcF6 (unf_ok (by omega) (by omega) g3 g4 (.inl g5)) gp (by rw [hu]; rfl) rfl gv)
  have EX := hide (show rcNext x 4 t s = x from rcNext_bad (by rw [unhide EF]; omega))
  obtain ⟨W2, hW2⟩ : ∃ W, W = w.alloc (.cells #[.int .i64 4, .int .i64 t, .string s] 31) := ⟨_, rfl⟩
  have b2 : Below w.heap.size w W2 := by rw [hW2]; exact bAl (Below.refl _ _) _
  have R2 := hide (show RowIs W2 w.heap.size #[.int .i64 4, .int .i64 t, .string s] 31 by rw [hW2]; exact RowIs.new _ _ _)
  have z2 := hide (show W2.heap.size = w.heap.size + 1 by rw [hW2]; simp)
  have h2 := hide (h.keep b2)
  have H0 := hide h
  have nb := h.box.lt
  have B2 := hide b2
  have HW := hide hW2.symm
  have e0 := (unhide R2).at (o := 0) (v := .int .i64 4) rfl
  have e1 := (unhide R2).at (o := 1) (v := .int .i64 t) rfl
  have e2 := (unhide R2).at (o := 2) (v := .string s) rfl
  have ez := (unhide R2).lt
  have c0 := (unhide h2).box.at (o := 0) (v := .int .i64 x.now) rfl
  have c1 := (unhide h2).box.at (o := 1) (v := .bool x.under) rfl
  have c2 := (unhide h2).box.at (o := 2) (v := .int .i64 x.ready) rfl
  have c3 := (unhide h2).box.at (o := 3) (v := .slice va x.votes.length vc) rfl
  have cz := (unhide h2).box.lt
  have f0 := (unhide h2).box.froz 0
  have f1 := (unhide h2).box.froz 1
  have f2 := (unhide h2).box.froz 2
  have f3 := (unhide h2).box.froz 3
  clear hW2 b2 h
  go_enter Try.func18, Try.ntmps18
  go_upto_region 1 with fail
  rw [unhide HW]
  clear HW
  rw [hu] at c1
  go_wp2_with fail
  go_region
  go_wp2_with fail
  go_region
  go_wp2_with fail
  go_ret
  rw [unhide EF, unhide EX]
  exact ⟨rfl, SpEnd.same (unhide H0) (unhide B2).drew.drew⟩
set_option maxHeartbeats 4000000 in
theorem sdo_early {b : Nat} {x : RcT} {v : Value} (k t : Int) (s : ByteArray) (ha : Option Addr) (hl hc : Nat) (w : World) (h : SpAt w b x v) (g3 : ¬ t < 0) (g4 : ¬ 100000000000 < t) (g5 : (s.toList == []) = true) (gp : ¬ t < x.now) (hu : x.under = true) (gv : ¬ (x.votes.length : Int) < x.need) (gr : t < x.ready) : SdoIs x 4 t s b v ha hl hc w := by
  unfold SdoIs
  obtain ⟨va, vc, rfl⟩ : ∃ a c, v = .slice a x.votes.length c := by
    have := own_strs h.own
    obtain ⟨a, c, e, _⟩ := this
    exact ⟨a, c, e⟩
  have EF := hide (show rcFault x 4 t s = 7 from rcF7 (unf_ok (by omega) (by omega) g3 g4 (.inl g5)) gp (by rw [hu]; rfl) rfl gv gr)
  have EX := hide (show rcNext x 4 t s = x from rcNext_bad (by rw [unhide EF]; omega))
  obtain ⟨W2, hW2⟩ : ∃ W, W = w.alloc (.cells #[.int .i64 4, .int .i64 t, .string s] 31) := ⟨_, rfl⟩
  have b2 : Below w.heap.size w W2 := by rw [hW2]; exact bAl (Below.refl _ _) _
  have R2 := hide (show RowIs W2 w.heap.size #[.int .i64 4, .int .i64 t, .string s] 31 by rw [hW2]; exact RowIs.new _ _ _)
  have z2 := hide (show W2.heap.size = w.heap.size + 1 by rw [hW2]; simp)
  have h2 := hide (h.keep b2)
  have H0 := hide h
  have nb := h.box.lt
  have B2 := hide b2
  have HW := hide hW2.symm
  have e0 := (unhide R2).at (o := 0) (v := .int .i64 4) rfl
  have e1 := (unhide R2).at (o := 1) (v := .int .i64 t) rfl
  have e2 := (unhide R2).at (o := 2) (v := .string s) rfl
  have ez := (unhide R2).lt
  have c0 := (unhide h2).box.at (o := 0) (v := .int .i64 x.now) rfl
  have c1 := (unhide h2).box.at (o := 1) (v := .bool x.under) rfl
  have c2 := (unhide h2).box.at (o := 2) (v := .int .i64 x.ready) rfl
  have c3 := (unhide h2).box.at (o := 3) (v := .slice va x.votes.length vc) rfl
  have cz := (unhide h2).box.lt
  have f0 := (unhide h2).box.froz 0
  have f1 := (unhide h2).box.froz 1
  have f2 := (unhide h2).box.froz 2
  have f3 := (unhide h2).box.froz 3
  clear hW2 b2 h
  go_enter Try.func18, Try.ntmps18
  go_upto_region 1 with fail
  rw [unhide HW]
  clear HW
  rw [hu] at c1
  go_wp2_with fail
  go_region
  go_wp2_with fail
  go_region
  go_wp2_with fail
  go_region
  go_wp2_with fail
  go_ret
  rw [unhide EF, unhide EX]
  exact ⟨rfl, SpEnd.same (unhide H0) (unhide B2).drew.drew.drew⟩
set_option maxHeartbeats 4000000 in
theorem sdo_take {b : Nat} {x : RcT} {v : Value} (k t : Int) (s : ByteArray) (ha : Option Addr) (hl hc : Nat) (w : World) (h : SpAt w b x v) (g3 : ¬ t < 0) (g4 : ¬ 100000000000 < t) (g5 : (s.toList == []) = true) (gp : ¬ t < x.now) (hu : x.under = true) (gv : ¬ (x.votes.length : Int) < x.need) (gr : ¬ t < x.ready) : SdoIs x 4 t s b v ha hl hc w := by
  unfold SdoIs
  obtain ⟨va, vc, rfl⟩ : ∃ a c, v = .slice a x.votes.length c := by
    have := own_strs h.own
    obtain ⟨a, c, e, _⟩ := this
    exact ⟨a, c, e⟩
  have EF := hide (show rcFault x 4 t s = 0 from rcF0 (unf_ok (by omega) (by omega) g3 g4 (.inl g5)) gp (by rw [hu]; rfl) (by omega) (fun _ => ⟨gv, gr⟩))
  obtain ⟨W2, hW2⟩ : ∃ W, W = w.alloc (.cells #[.int .i64 4, .int .i64 t, .string s] 31) := ⟨_, rfl⟩
  have b2 : Below w.heap.size w W2 := by rw [hW2]; exact bAl (Below.refl _ _) _
  have R2 := hide (show RowIs W2 w.heap.size #[.int .i64 4, .int .i64 t, .string s] 31 by rw [hW2]; exact RowIs.new _ _ _)
  have z2 := hide (show W2.heap.size = w.heap.size + 1 by rw [hW2]; simp)
  have h2 := hide (h.keep b2)
  have H0 := hide h
  have nb := h.box.lt
  have B2 := hide b2
  have HW := hide hW2.symm
  have e0 := (unhide R2).at (o := 0) (v := .int .i64 4) rfl
  have e1 := (unhide R2).at (o := 1) (v := .int .i64 t) rfl
  have e2 := (unhide R2).at (o := 2) (v := .string s) rfl
  have ez := (unhide R2).lt
  have c0 := (unhide h2).box.at (o := 0) (v := .int .i64 x.now) rfl
  have c1 := (unhide h2).box.at (o := 1) (v := .bool x.under) rfl
  have c2 := (unhide h2).box.at (o := 2) (v := .int .i64 x.ready) rfl
  have c3 := (unhide h2).box.at (o := 3) (v := .slice va x.votes.length vc) rfl
  have cz := (unhide h2).box.lt
  have f0 := (unhide h2).box.froz 0
  have f1 := (unhide h2).box.froz 1
  have f2 := (unhide h2).box.froz 2
  have f3 := (unhide h2).box.froz 3
  clear hW2 b2 h
  go_enter Try.func18, Try.ntmps18
  go_upto_region 1 with fail
  rw [unhide HW]
  clear HW
  have EX := hide (rcNext_else (x := x) (k := 4) (t := t) (s := s) (unhide EF) (by omega) (by omega))
  rw [hu] at c1
  go_wp2_with fail
  go_region
  go_wp2_with fail
  go_region
  go_wp2_with fail
  go_region
  go_wp2_with fail
  go_ret
  rw [unhide EF, unhide EX]
  have hd := (unhide H0).keep (unhide B2)
  exact ⟨rfl, ⟨⟨_, SpAt.keep ⟨((hd.box.set 1 _).set 0 _), own_box (own_box hd.own _ _) _ _⟩ (Below.refl _ _).drew.drew.drew, fun g e => .inl e⟩, (((TcS.of (unhide B2)).trans (TcS.setB b _ _ _ _) (fun g e => .inl e)).trans (TcS.setB b _ _ _ _) (fun g e => .inl e)).trans (TcS.of (Below.refl _ _).drew.drew.drew) (fun g e => .inl e)⟩⟩
end Go.Proofs.Ytjmpakpodhbbpaa
