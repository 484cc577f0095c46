/- LPm, LPn, LPo, one behind the other. -/
import Derived.Test.YtppkgcedkdeccaaDoorJ28
/- Sessions: the session that an event shows, when it is its own. -/
namespace Go.Proofs.YtppkgcedkdeccaaDoor
set_option linter.unusedSimpArgs false
set_option linter.unusedVariables false
set_option maxRecDepth 20000
open Go.RowKit Go.Maps

section
variable {w0 w : World} {b : Nat} {ka : Option Addr} {kl kc : Nat} {x : SsT} {mo me : Nat} {ov : Value} {Q : List BlT} {M : ByteArray → Option Value} {n : Nat}
set_option maxHeartbeats 4000000 in
theorem sh_dead (h : PsAt w0 w b ka kl kc x mo me ov Q M n) (k t : Int) (u d i : ByteArray) (hi : i.size ≤ maxLen) (hd : d.size ≤ maxLen) {j : Nat} (hj : j < Q.length) (hf : findI (idsL x.list) i = some j) (hs : lastI (x.list[j]'(h.okQ hj)).ids = i ∧ (x.list[j]'(h.okQ hj)).device = d) (hde : (x.list[j]'(h.okQ hj)).dead = true) :
    Calls Tryd.prog 60 #[.pointer (some ⟨b, 0, none⟩), .agg #[.int .i64 k, .int .i64 t, .string u, .string d, .string i]] w fun e w' => e = .returned (.tuple #[.pointer none, .int .i64 5]) ∧ PsAt w0 w' b ka kl kc x mo me ov Q M n ∧ Tch StI w0.heap.size w w' := by
  have hjx := h.okQ hj
  have hz : ∀ w, (zeroValue 70).run Tryd.prog w = .ok (.pointer none) w := fun w => by kernel_rfl
  have hbz := h.box.lt
  obtain ⟨W1, hW1⟩ : ∃ W, W = w.alloc (.cells #[.int .i64 k, .int .i64 t, .string u, .string d, .string i] 34) := ⟨_, rfl⟩
  have b1 : Below w.heap.size w W1 := by rw [hW1]; exact bAl (Below.refl _ _) _
  have bd : Below w.heap.size w W1.drew := bTr b1 (Below.refl _ _).drew
  have RE0 : RowIs W1 w.heap.size #[.int .i64 k, .int .i64 t, .string u, .string d, .string i] 34 := by rw [hW1]; exact RowIs.new _ _ _
  have RE : RowIs W1.drew w.heap.size #[.int .i64 k, .int .i64 t, .string u, .string d, .string i] 34 := RowIs.keep RE0 (Below.refl _ _).drew
  have HW1 := hide hW1.symm
  have H1 := hide (h.keep bd)
  have T1 := hide (h.tch bd)
  have e3 := RE.at (o := 3) (v := .string d) rfl
  have e4 := RE.at (o := 4) (v := .string i) rfl
  have ez := RE.lt
  have c5 := (unhide H1).box.at (o := 5) (v := .map (some mo)) rfl
  have c3 := (unhide H1).box.at (o := 3) (v := .int .i64 x.now) rfl
  have cz := (unhide H1).box.lt
  have hl := look_run (t := 65) kStr Tryd.underlying65 (hz W1.drew) (unhide H1).idm i hi (.pointer (some ⟨Q[j].sb, 0, none⟩)) true (by unfold idMap; rw [hf]; simp [List.getD_eq_getElem?_getD, hj]) (by unfold idMap; rw [hf]; rfl)
  have rj := (unhide H1).ses j hj hjx
  have ne : Nonempty (Kept W1.drew) := ⟨⟨W1.drew, Below.refl _ _⟩⟩
  have k3 := kept_cell RE.lt e3
  have k4 := kept_cell RE.lt e4
  have r0 := kept_cell rj.lt (rj.at (o := 0) (v := .string (lastI (x.list[j]'hjx).ids)) rfl)
  have r2 := kept_cell rj.lt (rj.at (o := 2) (v := .string (x.list[j]'hjx).device) rfl)
  have rz := rj.lt
  have qi := hide (fun (w' : World) (hb : Below W1.drew.heap.size W1.drew w') => isDead_any Q[j].sb Q[j].en Q[j].ev Q[j].ce Q[j].cd w' ((((unhide H1).keep hb).ses j hj hjx).at (o := 6) rfl) ((((unhide H1).keep hb).ses j hj hjx).at (o := 7) rfl) (((unhide H1).keep hb).che j hj) (((unhide H1).keep hb).chv j hj))
  rw [← h.dd j hj hjx, hde] at qi
  clear hW1 b1 bd hf RE0 RE rj
  rw [hs.1] at r0
  rw [hs.2] at r2
  clear hs hde
  go_enter Tryd.func60, Tryd.ntmps60
  go_upto_region 1 with fail
  refine wp_world (unhide HW1) ?_
  clear HW1
  go_region
  all_goals
    go_upto_region 4 with fail
    refine wp_region_kept (by kernel_rfl) (by kernel_rfl) ?_
    repeat (first
      | go_big_quiet_step ((fail))
      | quiet_step ((fail)))
    refine wpQuiet_nil ?_
    rintro _ ⟨q, rfl⟩
    go_wp2_with fail
    refine (unhide qi _ q.h).mono ?_
    rintro e w5 ⟨rfl, hb5⟩
    have B5 := hide (bTr q.h hb5)
    clear hb5
    go_wp2_with fail
    go_ret2
    exact ⟨rfl, (unhide H1).keep (unhide B5), (unhide T1).trans ((unhide H1).tch (unhide B5))⟩
end
section
variable {w0 w : World} {b : Nat} {ka : Option Addr} {kl kc : Nat} {x : SsT} {mo me : Nat} {ov : Value} {Q : List BlT} {M : ByteArray → Option Value} {n : Nat}
set_option maxHeartbeats 4000000 in
theorem sh_over (h : PsAt w0 w b ka kl kc x mo me ov Q M n) (k t : Int) (u d i : ByteArray) (hi : i.size ≤ maxLen) (hd : d.size ≤ maxLen) {j : Nat} (hj : j < Q.length) (hf : findI (idsL x.list) i = some j) (hs : lastI (x.list[j]'(h.okQ hj)).ids = i ∧ (x.list[j]'(h.okQ hj)).device = d) (hde : (x.list[j]'(h.okQ hj)).dead = false) (g1 : 0 ≤ (x.list[j]'(h.okQ hj)).login ∧ (x.list[j]'(h.okQ hj)).login ≤ 100000000000) (g2 : 0 ≤ (x.list[j]'(h.okQ hj)).last ∧ (x.list[j]'(h.okQ hj)).last ≤ 100000000000) (g3 : 0 ≤ x.idle ∧ x.idle ≤ 1000000) (g4 : 0 ≤ x.most ∧ x.most ≤ 1000000) (ho : overS x (x.list[j]'(h.okQ hj)) x.now = true) :
    Calls Tryd.prog 60 #[.pointer (some ⟨b, 0, none⟩), .agg #[.int .i64 k, .int .i64 t, .string u, .string d, .string i]] w fun e w' => e = .returned (.tuple #[.pointer none, .int .i64 6]) ∧ PsAt w0 w' b ka kl kc x mo me ov Q M n ∧ Tch StI w0.heap.size w w' := by
  have hjx := h.okQ hj
  have hz : ∀ w, (zeroValue 70).run Tryd.prog w = .ok (.pointer none) w := fun w => by kernel_rfl
  have hbz := h.box.lt
  obtain ⟨W1, hW1⟩ : ∃ W, W = w.alloc (.cells #[.int .i64 k, .int .i64 t, .string u, .string d, .string i] 34) := ⟨_, rfl⟩
  have b1 : Below w.heap.size w W1 := by rw [hW1]; exact bAl (Below.refl _ _) _
  have bd : Below w.heap.size w W1.drew := bTr b1 (Below.refl _ _).drew
  have RE0 : RowIs W1 w.heap.size #[.int .i64 k, .int .i64 t, .string u, .string d, .string i] 34 := by rw [hW1]; exact RowIs.new _ _ _
  have RE : RowIs W1.drew w.heap.size #[.int .i64 k, .int .i64 t, .string u, .string d, .string i] 34 := RowIs.keep RE0 (Below.refl _ _).drew
  have HW1 := hide hW1.symm
  have H1 := hide (h.keep bd)
  have T1 := hide (h.tch bd)
  have e3 := RE.at (o := 3) (v := .string d) rfl
  have e4 := RE.at (o := 4) (v := .string i) rfl
  have ez := RE.lt
  have c5 := (unhide H1).box.at (o := 5) (v := .map (some mo)) rfl
  have c3 := (unhide H1).box.at (o := 3) (v := .int .i64 x.now) rfl
  have cz := (unhide H1).box.lt
  have hl := look_run (t := 65) kStr Tryd.underlying65 (hz W1.drew) (unhide H1).idm i hi (.pointer (some ⟨Q[j].sb, 0, none⟩)) true (by unfold idMap; rw [hf]; simp [List.getD_eq_getElem?_getD, hj]) (by unfold idMap; rw [hf]; rfl)
  have rj := (unhide H1).ses j hj hjx
  have ne : Nonempty (Kept W1.drew) := ⟨⟨W1.drew, Below.refl _ _⟩⟩
  have k3 := kept_cell RE.lt e3
  have k4 := kept_cell RE.lt e4
  have r0 := kept_cell rj.lt (rj.at (o := 0) (v := .string (lastI (x.list[j]'hjx).ids)) rfl)
  have r2 := kept_cell rj.lt (rj.at (o := 2) (v := .string (x.list[j]'hjx).device) rfl)
  have rz := rj.lt
  have qi := hide (fun (w' : World) (hb : Below W1.drew.heap.size W1.drew w') => isDead_any Q[j].sb Q[j].en Q[j].ev Q[j].ce Q[j].cd w' ((((unhide H1).keep hb).ses j hj hjx).at (o := 6) rfl) ((((unhide H1).keep hb).ses j hj hjx).at (o := 7) rfl) (((unhide H1).keep hb).che j hj) (((unhide H1).keep hb).chv j hj))
  rw [← h.dd j hj hjx, hde] at qi
  clear hW1 b1 bd hf RE0 RE rj
  rw [hs.1] at r0
  rw [hs.2] at r2
  have qo := hide (fun (w' : World) (hb : Below W1.drew.heap.size W1.drew w') => iOver_any b mo me ka kl kc x (x.list[j]'hjx) Q[j] ov x.now w' ((unhide H1).keep hb).box (((unhide H1).keep hb).ses j hj hjx) g1 g2 g3 g4)
  rw [ho] at qo
  have o3 := hide (fun (w' : World) (hb : Below W1.drew.heap.size W1.drew w') => ((unhide H1).keep hb).box.at (o := 3) (v := .int .i64 x.now) rfl)
  have oz := hide (fun (w' : World) (hb : Below W1.drew.heap.size W1.drew w') => ((unhide H1).keep hb).box.lt)
  clear hs hde ho g1 g2 g3 g4
  go_enter Tryd.func60, Tryd.ntmps60
  go_upto_region 1 with fail
  refine wp_world (unhide HW1) ?_
  clear HW1
  go_region
  all_goals
    go_upto_region 4 with fail
    refine wp_region_kept (by kernel_rfl) (by kernel_rfl) ?_
    repeat (first
      | go_big_quiet_step ((fail))
      | quiet_step ((fail)))
    refine wpQuiet_nil ?_
    rintro _ ⟨q, rfl⟩
    go_wp2_with fail
    refine (unhide qi _ q.h).mono ?_
    rintro e w5 ⟨rfl, hb5⟩
    have B5 := hide (bTr q.h hb5)
    clear hb5
    have c35 := unhide o3 _ (unhide B5)
    have z35 := unhide oz _ (unhide B5)
    go_wp2_with fail
    refine (unhide qo _ (unhide B5)).mono ?_
    rintro e w6 ⟨rfl, hb6⟩
    have B6 := hide (bTr (unhide B5) hb6)
    clear hb6
    go_wp2_with fail
    go_ret2
    exact ⟨rfl, (unhide H1).keep (unhide B6), (unhide T1).trans ((unhide H1).tch (unhide B6))⟩
end
section
variable {w0 w : World} {b : Nat} {ka : Option Addr} {kl kc : Nat} {x : SsT} {mo me : Nat} {ov : Value} {Q : List BlT} {M : ByteArray → Option Value} {n : Nat}
set_option maxHeartbeats 4000000 in
theorem sh_fine (h : PsAt w0 w b ka kl kc x mo me ov Q M n) (k t : Int) (u d i : ByteArray) (hi : i.size ≤ maxLen) (hd : d.size ≤ maxLen) {j : Nat} (hj : j < Q.length) (hf : findI (idsL x.list) i = some j) (hs : lastI (x.list[j]'(h.okQ hj)).ids = i ∧ (x.list[j]'(h.okQ hj)).device = d) (hde : (x.list[j]'(h.okQ hj)).dead = false) (g1 : 0 ≤ (x.list[j]'(h.okQ hj)).login ∧ (x.list[j]'(h.okQ hj)).login ≤ 100000000000) (g2 : 0 ≤ (x.list[j]'(h.okQ hj)).last ∧ (x.list[j]'(h.okQ hj)).last ≤ 100000000000) (g3 : 0 ≤ x.idle ∧ x.idle ≤ 1000000) (g4 : 0 ≤ x.most ∧ x.most ≤ 1000000) (ho : overS x (x.list[j]'(h.okQ hj)) x.now = false) :
    Calls Tryd.prog 60 #[.pointer (some ⟨b, 0, none⟩), .agg #[.int .i64 k, .int .i64 t, .string u, .string d, .string i]] w fun e w' => e = .returned (.tuple #[.pointer (some ⟨Q[j].sb, 0, none⟩), .int .i64 0]) ∧ PsAt w0 w' b ka kl kc x mo me ov Q M n ∧ Tch StI w0.heap.size w w' := by
  have hjx := h.okQ hj
  have hz : ∀ w, (zeroValue 70).run Tryd.prog w = .ok (.pointer none) w := fun w => by kernel_rfl
  have hbz := h.box.lt
  obtain ⟨W1, hW1⟩ : ∃ W, W = w.alloc (.cells #[.int .i64 k, .int .i64 t, .string u, .string d, .string i] 34) := ⟨_, rfl⟩
  have b1 : Below w.heap.size w W1 := by rw [hW1]; exact bAl (Below.refl _ _) _
  have bd : Below w.heap.size w W1.drew := bTr b1 (Below.refl _ _).drew
  have RE0 : RowIs W1 w.heap.size #[.int .i64 k, .int .i64 t, .string u, .string d, .string i] 34 := by rw [hW1]; exact RowIs.new _ _ _
  have RE : RowIs W1.drew w.heap.size #[.int .i64 k, .int .i64 t, .string u, .string d, .string i] 34 := RowIs.keep RE0 (Below.refl _ _).drew
  have HW1 := hide hW1.symm
  have H1 := hide (h.keep bd)
  have T1 := hide (h.tch bd)
  have e3 := RE.at (o := 3) (v := .string d) rfl
  have e4 := RE.at (o := 4) (v := .string i) rfl
  have ez := RE.lt
  have c5 := (unhide H1).box.at (o := 5) (v := .map (some mo)) rfl
  have c3 := (unhide H1).box.at (o := 3) (v := .int .i64 x.now) rfl
  have cz := (unhide H1).box.lt
  have hl := look_run (t := 65) kStr Tryd.underlying65 (hz W1.drew) (unhide H1).idm i hi (.pointer (some ⟨Q[j].sb, 0, none⟩)) true (by unfold idMap; rw [hf]; simp [List.getD_eq_getElem?_getD, hj]) (by unfold idMap; rw [hf]; rfl)
  have rj := (unhide H1).ses j hj hjx
  have ne : Nonempty (Kept W1.drew) := ⟨⟨W1.drew, Below.refl _ _⟩⟩
  have k3 := kept_cell RE.lt e3
  have k4 := kept_cell RE.lt e4
  have r0 := kept_cell rj.lt (rj.at (o := 0) (v := .string (lastI (x.list[j]'hjx).ids)) rfl)
  have r2 := kept_cell rj.lt (rj.at (o := 2) (v := .string (x.list[j]'hjx).device) rfl)
  have rz := rj.lt
  have qi := hide (fun (w' : World) (hb : Below W1.drew.heap.size W1.drew w') => isDead_any Q[j].sb Q[j].en Q[j].ev Q[j].ce Q[j].cd w' ((((unhide H1).keep hb).ses j hj hjx).at (o := 6) rfl) ((((unhide H1).keep hb).ses j hj hjx).at (o := 7) rfl) (((unhide H1).keep hb).che j hj) (((unhide H1).keep hb).chv j hj))
  rw [← h.dd j hj hjx, hde] at qi
  clear hW1 b1 bd hf RE0 RE rj
  rw [hs.1] at r0
  rw [hs.2] at r2
  have qo := hide (fun (w' : World) (hb : Below W1.drew.heap.size W1.drew w') => iOver_any b mo me ka kl kc x (x.list[j]'hjx) Q[j] ov x.now w' ((unhide H1).keep hb).box (((unhide H1).keep hb).ses j hj hjx) g1 g2 g3 g4)
  rw [ho] at qo
  have o3 := hide (fun (w' : World) (hb : Below W1.drew.heap.size W1.drew w') => ((unhide H1).keep hb).box.at (o := 3) (v := .int .i64 x.now) rfl)
  have oz := hide (fun (w' : World) (hb : Below W1.drew.heap.size W1.drew w') => ((unhide H1).keep hb).box.lt)
  clear hs hde ho g1 g2 g3 g4
  go_enter Tryd.func60, Tryd.ntmps60
  go_upto_region 1 with fail
  refine wp_world (unhide HW1) ?_
  clear HW1
  go_region
  all_goals
    go_upto_region 4 with fail
    refine wp_region_kept (by kernel_rfl) (by kernel_rfl) ?_
    repeat (first
      | go_big_quiet_step ((fail))
      | quiet_step ((fail)))
    refine wpQuiet_nil ?_
    rintro _ ⟨q, rfl⟩
    go_wp2_with fail
    refine (unhide qi _ q.h).mono ?_
    rintro e w5 ⟨rfl, hb5⟩
    have B5 := hide (bTr q.h hb5)
    clear hb5
    have c35 := unhide o3 _ (unhide B5)
    have z35 := unhide oz _ (unhide B5)
    go_wp2_with fail
    refine (unhide qo _ (unhide B5)).mono ?_
    rintro e w6 ⟨rfl, hb6⟩
    have B6 := hide (bTr (unhide B5) hb6)
    clear hb6
    go_wp2_with fail
    go_ret2
    exact ⟨rfl, (unhide H1).keep (unhide B6), (unhide T1).trans ((unhide H1).tch (unhide B6))⟩
end
end Go.Proofs.YtppkgcedkdeccaaDoor
/- Sessions: what an event asks of its session. -/
namespace Go.Proofs.YtppkgcedkdeccaaDoor
set_option linter.unusedSimpArgs false
set_option linter.unusedVariables false
set_option maxRecDepth 20000
open Go.RowKit Go.Maps

section
variable {w0 w : World} {b : Nat} {ka : Option Addr} {kl kc : Nat} {x : SsT} {mo me : Nat} {ov : Value} {Q : List BlT} {M : ByteArray → Option Value} {n : Nat}
set_option maxHeartbeats 4000000 in
theorem die_row (h : PsAt w0 w b ka kl kc x mo me ov Q M n) (hn : n ≤ x.given) {j : Nat} (hj : j < Q.length) :
    Calls Tryd.prog 68 #[.pointer (some ⟨Q[j].sb, 0, none⟩)] w fun e w' => e = .returned (.tuple #[]) ∧ RowIs w' Q[j].sb (sC (x.list[j]'(h.okQ hj)) Q[j]) 103 ∧ PsEnd w0 w b ka kl kc { x with list := x.list.set j { (x.list[j]'(h.okQ hj)) with dead := true } } mo me w' := by
  have hjx := h.okQ hj
  have rj := h.ses j hj hjx
  have qd := hide (isDead_any Q[j].sb Q[j].en Q[j].ev Q[j].ce Q[j].cd w (rj.at (o := 6) rfl) (rj.at (o := 7) rfl) (h.che j hj) (h.chv j hj))
  rw [← h.dd j hj hjx] at qd
  have HH := hide h
  cases hde : x.list[j].dead with
  | true =>
    rw [hde] at qd
    have ES := hide (set_dead x.list j hjx hde)
    clear rj
    go_enter Tryd.func68, Tryd.ntmps68
    go_wp2_with fail
    refine (unhide qd).mono ?_
    rintro e w1 ⟨rfl, hb1⟩
    go_wp2_with fail
    go_end0
    refine ⟨rfl, ((unhide HH).keep hb1).ses j hj hjx, ⟨ov, Q, M, n, hn, ?_⟩, (unhide HH).tch hb1⟩
    have q := (unhide HH).keep hb1
    rw [unhide ES]
    exact q
  | false =>
    rw [hde] at qd
    clear rj
    go_enter Tryd.func68, Tryd.ntmps68
    go_wp2_with fail
    refine (unhide qd).mono ?_
    rintro e w1 ⟨rfl, hb1⟩
    have H1 := hide ((unhide HH).keep hb1)
    have T1 := hide ((unhide HH).tch hb1)
    have c6 := ((unhide H1).ses j hj hjx).at (o := 6) (v := .chan (some Q[j].en)) rfl
    have cz := ((unhide H1).ses j hj hjx).lt
    have hce : Q[j].ce = false := by
      have q := (unhide HH).dd j hj hjx
      rw [hde] at q
      cases e : Q[j].ce with
      | false => rfl
      | true => rw [e] at q; simp at q
    have cc := (unhide H1).che j hj
    rw [hce] at cc
    obtain ⟨s, r, hc⟩ := cc
    have hz := (Array.getElem?_eq_some_iff.1 hc).1
    have CL := hide ((unhide H1).closeEn hj s r)
    have TL := hide (Tch.close (S := StI) ((unhide H1).che j hj) (by have := ((unhide H1).lows j hj).2.1; have := (unhide H1).lo; omega : w0.heap.size ≤ Q[j].en) s r)
    clear qd
    have hcl := Go.run_close_open (P := Tryd.prog) (w := w1) #[101] 0 hc
    go_wp2_with fail
    go_end0
    refine ⟨rfl, ?_, ⟨ov, _, M, n, hn, unhide CL⟩, (unhide T1).trans (unhide TL)⟩
    have rr := (unhide H1).ses j hj hjx
    have e2 : (closeW w1 Q[j].en s r).heap[Q[j].sb]? = w1.heap[Q[j].sb]? := closeW_other _ _ _ _ _ (by
      intro e3
      unfold RowIs at rr
      rw [e3, hc] at rr
      cases rr)
    unfold RowIs at *
    exact e2.trans rr

theorem set_same (l : List SxT) (j : Nat) (s : SxT) (hj : j < (l.set j s).length) : (l.set j s)[j] = s := by simp
theorem set_again (l : List SxT) (j : Nat) (s s' : SxT) : (l.set j s).set j s' = l.set j s' := by simp
def lastX (s : SxT) (t : Int) : SxT := { s with last := t }
set_option maxHeartbeats 4000000 in
theorem use_plain (h : PsAt w0 w b ka kl kc x mo me ov Q M n) (hn : n ≤ x.given) {j : Nat} (hj : j < Q.length) (k : Int) (n3 : ¬ k = 3) (n4 : ¬ k = 4) :
    Calls Tryd.prog 61 #[.pointer (some ⟨b, 0, none⟩), .pointer (some ⟨Q[j].sb, 0, none⟩), .int .i64 k] w fun e w' => e = .returned (.tuple #[]) ∧ RowIs w' Q[j].sb (sC (lastX (x.list[j]'(h.okQ hj)) x.now) Q[j]) 103 ∧ PsEnd w0 w b ka kl kc { x with list := x.list.set j (lastX (x.list[j]'(h.okQ hj)) x.now) } mo me w' := by
  have hjx := h.okQ hj
  have rj := h.ses j hj hjx
  have e3 : (k == 3) = false := by simpa using n3
  have e4 : (k == 4) = false := by simpa using n4
  have H2 := hide (h.setX hj 5 (.int .i64 x.now) (lastX (x.list[j]'hjx) x.now) rfl rfl rfl rfl)
  have T2 := hide (h.tchX hj 5 (.int .i64 x.now))
  have R2 := hide (show RowIs (w.setCell ⟨Q[j].sb, 5, none⟩ (.int .i64 x.now)) Q[j].sb (sC (lastX (x.list[j]'hjx) x.now) Q[j]) 103 from rj.set 5 (.int .i64 x.now))
  have c3 := h.box.at (o := 3) (v := .int .i64 x.now) rfl
  have cz := h.box.lt
  have s5 := rj.at (o := 5) (v := .int .i64 (x.list[j]'hjx).last) rfl
  have f5 := rj.froz 5
  have sz := rj.lt
  clear rj n3 n4
  go_enter Tryd.func61, Tryd.ntmps61
  go_wp2_with fail
  go_end0
  exact ⟨rfl, unhide R2, ⟨ov, Q, M, n, hn, unhide H2⟩, unhide T2⟩
set_option maxHeartbeats 4000000 in
theorem use_out (h : PsAt w0 w b ka kl kc x mo me ov Q M n) (hn : n ≤ x.given) {j : Nat} (hj : j < Q.length) :
    Calls Tryd.prog 61 #[.pointer (some ⟨b, 0, none⟩), .pointer (some ⟨Q[j].sb, 0, none⟩), .int .i64 4] w fun e w' => e = .returned (.tuple #[]) ∧ RowIs w' Q[j].sb (sC (lastX (x.list[j]'(h.okQ hj)) x.now) Q[j]) 103 ∧ PsEnd w0 w b ka kl kc { x with list := x.list.set j { lastX (x.list[j]'(h.okQ hj)) x.now with dead := true } } mo me w' := by
  have hjx := h.okQ hj
  have rj := h.ses j hj hjx
  obtain ⟨W2, hW2⟩ : ∃ W, W = w.setCell ⟨Q[j].sb, 5, none⟩ (.int .i64 x.now) := ⟨_, rfl⟩
  have H2 : PsAt w0 W2 b ka kl kc { x with list := x.list.set j (lastX (x.list[j]'hjx) x.now) } mo me ov Q M n := by rw [hW2]; exact h.setX hj 5 (.int .i64 x.now) (lastX (x.list[j]'hjx) x.now) rfl rfl rfl rfl
  have T2 := hide (show Tch StI w0.heap.size w W2 by rw [hW2]; exact h.tchX hj 5 (.int .i64 x.now))
  have qd := die_row H2 hn hj
  simp only [set_same, set_again] at qd
  have QD := hide qd
  have HW := hide hW2.symm
  have c3 := h.box.at (o := 3) (v := .int .i64 x.now) rfl
  have cz := h.box.lt
  have s5 := rj.at (o := 5) (v := .int .i64 (x.list[j]'hjx).last) rfl
  have f5 := rj.froz 5
  have sz := rj.lt
  clear rj H2 qd hW2
  go_enter Tryd.func61, Tryd.ntmps61
  go_upto_region 1 with fail
  refine wp_world (unhide HW) ?_
  clear HW
  go_wp2_with fail
  refine (unhide QD).mono ?_
  rintro e w5 ⟨rfl, hr5, he5, ht5⟩
  have HR := hide hr5
  have HE := hide he5
  have HT := hide ht5
  clear hr5 he5 ht5
  go_wp2_with fail
  go_end0
  exact ⟨rfl, unhide HR, unhide HE, (unhide T2).trans (unhide HT)⟩
end
end Go.Proofs.YtppkgcedkdeccaaDoor
/- Sessions: a raise, by the program. -/
namespace Go.Proofs.YtppkgcedkdeccaaDoor
set_option linter.unusedSimpArgs false
set_option linter.unusedVariables false
set_option maxRecDepth 20000
open Go.RowKit Go.Maps

section
variable {w0 w : World} {b : Nat} {ka : Option Addr} {kl kc : Nat} {x : SsT} {mo me : Nat} {ov : Value} {Q : List BlT} {M : ByteArray → Option Value} {n : Nat}
theorem PsAt.give (h : PsAt w0 w b ka kl kc x mo me ov Q M n) {j : Nat} (hj : j < Q.length) (I : ByteArray) (hz : ∀ l ∈ idsL x.list, I ∉ l) {w' : World} (hb : RowIs w' b (vC ka kl kc { x with given := x.given + 1 } mo me ov) 69)
    (hs : RowIs w' Q[j].sb (sC { (x.list[j]'(h.okQ hj)) with ids := (x.list[j]'(h.okQ hj)).ids ++ [I] } Q[j]) 103) (hm : KM Tryd.prog 9 Value.string w' mo (x.given + 1) (updK (idMap x Q) I (.pointer (some ⟨Q[j].sb, 0, Option.none⟩)))) (hB : But3 b Q[j].sb mo w w') :
    PsAt w0 w' b ka kl kc { x with given := x.given + 1, list := x.list.set j { (x.list[j]'(h.okQ hj)) with ids := (x.list[j]'(h.okQ hj)).ids ++ [I] } } mo me ov Q M n := by
  have hjx := h.okQ hj
  have rj := h.ses j hj hjx
  have rb := h.box
  obtain ⟨es, cl, em⟩ := h.idm.is
  have low := h.lows j hj
  have lom := h.lom
  have row : ∀ {g : Nat} {C : Array Value}, g ≠ b → g ≠ Q[j].sb → RowIs w g C 103 → RowIs w' g C 103 := fun {g C} h1 h2 hr => by
    have hl := hr.lt
    unfold RowIs at *
    rw [hB.block g hl h1 h2 (by rintro rfl; rw [em] at hr; cases hr)]
    exact hr
  have ch : ∀ {k : Nat} {c : Bool}, ChanAt w k c → ChanAt w' k c := fun {k c} hc => hc.same (hB.block k hc.lt (by
    rintro rfl
    obtain ⟨s, r, e⟩ := hc
    unfold RowIs at rb
    rw [rb] at e
    cases e) (by
    rintro rfl
    obtain ⟨s, r, e⟩ := hc
    unfold RowIs at rj
    rw [rj] at e
    cases e) (by
    rintro rfl
    obtain ⟨s, r, e⟩ := hc
    rw [em] at e
    cases e))
  have km : KM Tryd.prog 9 Value.string w' me n M := h.evm.block (hB.block me h.evm.lt (by omega) (by
    rintro rfl
    obtain ⟨es2, cl2, e⟩ := h.evm.is
    unfold RowIs at rj
    rw [rj] at e
    cases e) (by omega))
  have jl : j < (idsL x.list).length := by unfold idsL; simpa using hjx
  have il : idsL (x.list.set j { (x.list[j]) with ids := (x.list[j]).ids ++ [I] }) = (idsL x.list).set j ((idsL x.list)[j] ++ [I]) := by
    have ej : (idsL x.list)[j] = (x.list[j]).ids := List.getElem_map ..
    rw [ej]
    unfold idsL
    rw [List.map_set]
  have im : updK (idMap x Q) I (.pointer (some ⟨Q[j].sb, 0, Option.none⟩)) = idMap { x with given := x.given + 1, list := x.list.set j { (x.list[j]) with ids := (x.list[j]).ids ++ [I] } } Q := by
    funext y
    unfold updK idMap
    rw [il, findI_set jl hz y]
    by_cases e : y = I
    · rw [if_pos e, if_pos e]
      simp [List.getD_eq_getElem?_getD, hj]
    · rw [if_neg e, if_neg e]
  have gg : ∀ i (hi : i < x.list.length), (x.list.set j { (x.list[j]) with ids := (x.list[j]).ids ++ [I] })[i]'(by simpa using hi) = if i = j then { (x.list[i]) with ids := (x.list[i]).ids ++ [I] } else x.list[i] := by
    intro i hi
    rw [List.getElem_set]
    by_cases e : j = i
    · subst e; simp
    · rw [if_neg e, if_neg (fun q => e q.symm)]
  have gu : ∀ i (hi : i < x.list.length), ((x.list.set j { (x.list[j]) with ids := (x.list[j]).ids ++ [I] })[i]'(by simpa using hi)).user = x.list[i].user ∧ ((x.list.set j { (x.list[j]) with ids := (x.list[j]).ids ++ [I] })[i]'(by simpa using hi)).dead = x.list[i].dead := by
    intro i hi
    rw [gg i hi]
    split <;> exact ⟨rfl, rfl⟩
  refine ⟨hb, by simpa using h.len, fun i hi hi' => ?_, fun i hi => ch (h.che i hi), fun i hi => ch (h.chv i hi), fun i hi hi' => ?_, h.sbA, h.enA, h.nv, by rw [← im]; exact hm, km, fun a v hv => ?_, fun i hi hi' => ?_, h.m3, own_blk h.own (fun g hg => ?_), h.lows, h.lom, h.bel.trans (hB.below h.lo (by have := h.lo; omega) (by have := h.lo; omega) h.bel.size), h.lo⟩
  · have hix : i < x.list.length := h.okQ hi
    show RowIs _ _ (sC ((x.list.set j { (x.list[j]) with ids := (x.list[j]).ids ++ [I] })[i]'(by simpa using hix)) Q[i]) _
    rw [gg i hix]
    by_cases e2 : i = j
    · subst e2
      rw [if_pos rfl]
      exact hs
    · rw [if_neg e2]
      exact row (by have := (h.lows i hi).1; omega) (h.sbA i j hi hj e2) (h.ses i hi hix)
  · have hix : i < x.list.length := h.okQ hi
    exact (gu i hix).2.trans (h.dd i hi hix)
  · obtain ⟨c, a1, a2, a3, a4⟩ := h.m1 a v hv
    exact ⟨c, a1, ch a2, a3, a4⟩
  · have hix : i < x.list.length := h.okQ hi
    show _ ∨ M ((x.list.set j { (x.list[j]) with ids := (x.list[j]).ids ++ [I] })[i]'(by simpa using hix)).user = _
    rw [(gu i hix).1]
    exact h.m2 i hi hix
  · obtain ⟨C, hC⟩ := own_is h.own hg
    have lg := h.own.lt g hg
    exact hB.block g lg.2 (by omega) (by
      rintro rfl
      unfold RowIs at rj
      rw [rj] at hC
      simp at hC) (by rintro rfl; rw [em] at hC; cases hC)
theorem PsAt.tch3 (h : PsAt w0 w b ka kl kc x mo me ov Q M n) {j : Nat} (hj : j < Q.length) {w' : World} (hB : But3 b Q[j].sb mo w w') : Tch StI w0.heap.size w w' := by
  have rj := h.ses j hj (h.okQ hj)
  have rb := h.box
  obtain ⟨es, cl, em⟩ := h.idm.is
  have low := h.lows j hj
  have lom := h.lom
  have bz := h.box.lt
  refine ⟨hB.below h.lo (by have := h.lo; omega) (by omega) h.bel.size, fun g C T f hg hn => ?_⟩
  have gl := (Array.getElem?_eq_some_iff.1 hg).1
  rw [hB.block g gl ?_ ?_ ?_]
  · exact hg
  · rintro rfl; unfold RowIs at rb; rw [rb] at hg; cases hg; exact hn (.inl rfl)
  · rintro rfl; unfold RowIs at rj; rw [rj] at hg; cases hg; exact hn (.inr (.inl rfl))
  · rintro rfl; rw [em] at hg; cases hg
end
end Go.Proofs.YtppkgcedkdeccaaDoor
