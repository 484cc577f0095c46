/- LPk, LPl, LPm, one behind the other. -/
import Derived.Test.YtlbbjkpdionieaaDoorJ27
/- Sessions: logoutAll. -/
namespace Go.Proofs.YtlbbjkpdionieaaDoor
set_option linter.unusedSimpArgs false
set_option linter.unusedVariables false
set_option maxRecDepth 20000
open Go.RowKit Go.Maps


section
variable {w0 w : World} {b : Nat} {ka : Option Addr} {kl kc : Nat} {x : SsT} {mo me : Nat} {ov : Value} {Q : List BlT} {M : ByteArray → Option Value} {n : Nat}
set_option maxHeartbeats 4000000 in
theorem logoutAll_any (h : PsAt w0 w b ka kl kc x mo me ov Q M n) (hn : n ≤ x.given) (u : ByteArray) (hu : u.size ≤ maxLen) :
    Calls Tryd.prog 44 #[.pointer (some ⟨b, 0, none⟩), .string u] w fun e w' => e = .returned (.tuple #[]) ∧ PsEnd w0 w b ka kl kc { x with list := killAll u x.list } mo me w' := by
  have HH := hide h
  have hz : ∀ w, (zeroValue 94).run Tryd.prog w = .ok (.chan none) w := fun w => by kernel_rfl
  have c6 := h.box.at (o := 6) (v := .map (some me)) rfl
  have cz := h.box.lt
  have HK := hide h.evm
  cases hM : M u with
  | none =>
    have er := hide (show (M u).isSome = false by rw [hM]; rfl)
    have ev := hide (show (M u).getD (.chan none) = .chan none by rw [hM]; rfl)
    have HM := hide hM
    clear h hM
    go_enter Tryd.func44, Tryd.ntmps44
    go_wp2_with (at_lookup; refine wpList_look_km _ kStr rfl _ _ _ rfl _ Tryd.underlying79 (hz _) me n _ rfl (unhide HK) u rfl hu _ _ (unhide ev) (unhide er) ?_)
    go_end0
    refine ⟨rfl, ⟨ov, Q, M, n, hn, ?_⟩, Tch.refl _ _ _⟩
    rw [(unhide HH).none (unhide HM)]
    exact unhide HH
  | some v =>
    obtain ⟨c, rfl, ⟨s, r, hc⟩, lc, hen⟩ := h.m1 u v hM
    have er := hide (show (M u).isSome = true by rw [hM]; rfl)
    have ev := hide (show (M u).getD (.chan none) = .chan (some c) by rw [hM]; rfl)
    have HM := hide hM
    have HB := hide h.bel
    have hLo := h.lo
    have hlm := h.lom
    have hcl := Go.run_close_open (P := Tryd.prog) (w := w) #[94] 0 hc
    have CO := hide (fun g hg => closeW_other w c s r g hg)
    have CS := hide (closeW_same w c s r (Array.getElem?_eq_some_iff.1 hc).1)
    have BX := hide (show RowIs (closeW w c s r) b (vC ka kl kc x mo me ov) 82 by
      have q := h.box
      unfold RowIs at *
      rw [closeW_other w c s r b (by omega)]; exact q)
    have KC := hide (show KM Tryd.prog 9 Value.string (closeW w c s r) me n M from h.evm.block (closeW_other w c s r me (by
      obtain ⟨es, cl, em⟩ := h.evm.is
      rintro rfl
      rw [hc] at em
      cases em)))
    have NM := hide (show me ≠ c by
      obtain ⟨es, cl, em⟩ := h.evm.is
      rintro rfl
      rw [hc] at em
      cases em)
    have BC := hide (show Below w0.heap.size w (closeW w c s r) from Below.close (Below.refl _ _) (by omega) s r)
    have TC := hide (show Tch StI w0.heap.size w (closeW w c s r) from Tch.close ⟨s, r, hc⟩ (by omega) s r)
    clear h hM hen
    obtain ⟨W1, hW1⟩ : ∃ W, W = closeW w c s r := ⟨_, rfl⟩
    have HW1 := hide hW1
    rw [show ({ w with heap := w.heap.setIfInBounds c (.chan 0 #[] true s r false) } : World) = W1 from hW1.symm] at hcl
    rw [← hW1] at CO CS BX KC BC TC
    clear hW1
    have d6 := (unhide BX).at (o := 6) (v := .map (some me)) rfl
    have dz := (unhide BX).lt
    go_enter Tryd.func44, Tryd.ntmps44
    go_wp2_with (first | (at_lookup; refine wpList_look_km _ kStr rfl _ _ _ rfl _ Tryd.underlying79 (hz _) me n _ rfl (unhide HK) u rfl hu _ _ (unhide ev) (unhide er) ?_) | (refine wpList_del_km _ kStr rfl _ _ _ rfl _ Tryd.underlying79 me n _ rfl (unhide KC) u rfl hu ?_; intro w5 hk5 hg5 hs5; have K5 := hide hk5; have G5 := hide hg5; clear hk5 hg5 hs5))
    go_end0
    have g5 := unhide G5
    have bc := unhide BC
    have bel := unhide HB
    have m1 := (unhide KC).is
    have t5 := Tch.but3 (b := w0.heap.size) (But3.grown (p := me) (q := me) g5) (by omega) (by omega) m1
    have q := bc.trans t5.bel
    refine ⟨rfl, ⟨ov, _, _, n, hn, (unhide HH).shut (unhide HM) (fun g hg h1 h2 => (g5.block g (Nat.lt_of_lt_of_le hg bc.size) (fun e => h2 (Option.some.inj e))).trans (unhide CO g h1)) ⟨s, r, (g5.block c (by have := Array.getElem?_eq_some_iff.1 (unhide CS); exact this.1) (fun e => unhide NM (Option.some.inj e).symm)).trans (unhide CS)⟩ (unhide K5) (bel.trans ⟨q.os, q.tape, q.output, q.size, fun g hg => q.block g (by omega)⟩)⟩, (unhide TC).trans t5⟩
end
end Go.Proofs.YtlbbjkpdionieaaDoor
/- Sessions: the session that an event shows. -/
namespace Go.Proofs.YtlbbjkpdionieaaDoor
set_option linter.unusedSimpArgs false
set_option linter.unusedVariables false
set_option maxRecDepth 20000
open Go.RowKit Go.Maps


theorem sNeB {a b : ByteArray} (h : ¬ a = b) : (a.toList == b.toList) = false := by
  cases e : (a.toList == b.toList) with
  | false => rfl
  | true =>
    rw [beq_iff_eq, ByteArray.toList_eq, ByteArray.toList_eq] at e
    exact absurd (ByteArray.ext (Array.toList_inj.1 e)) h
theorem look_run {P : Program} {k : TypeId} {α : Type} {enc : α → Value} {ok : α → Prop} {w : World} (K : KeyKind P k enc ok) {t e : TypeId} (ht : P.underlying t = some (.map k e)) {z : Value} (hz : (zeroValue e).run P w = .ok z w) {b n : Nat} {M : α → Option Value} (hk : KM P k enc w b n M) (y : α) (hy : ok y) (v : Value) (r : Bool) (hv : (M y).getD z = v) (hr : (M y).isSome = r) :
    (Instr.lookup t (.map (some b)) (enc y) true).run P w = .ok (.tuple #[v, .bool r]) w := by
  obtain ⟨D, hown, hD⟩ := hk
  obtain ⟨kl, hkl⟩ := K.key y hy
  obtain ⟨v', ps, hrun, hv'⟩ := hown.look_ok K.law ht hz (zd := .held z) (zp := []) rfl hkl
  obtain ⟨h1, h2⟩ := hD y kl hkl
  rw [kd_atKey h1 h2 hv', hv, h1, hr] at hrun
  exact hrun
section
variable {w0 w : World} {b : Nat} {ka : Option Addr} {kl kc : Nat} {x : SsT} {mo me : Nat} {ov : Value} {Q : List BlT} {M : ByteArray → Option Value} {n : Nat}
set_option maxHeartbeats 4000000 in
theorem sh_unknown (h : PsAt w0 w b ka kl kc x mo me ov Q M n) (k t : Int) (u d i : ByteArray) (hi : i.size ≤ maxLen) (hf : findI (idsL x.list) i = none) :
    Calls Tryd.prog 45 #[.pointer (some ⟨b, 0, none⟩), .agg #[.int .i64 k, .int .i64 t, .string u, .string d, .string i]] w fun e w' => e = .returned (.tuple #[.pointer none, .int .i64 3]) ∧ PsAt w0 w' b ka kl kc x mo me ov Q M n ∧ Tch StI w0.heap.size w w' := by
  have hz : ∀ w, (zeroValue 84).run Tryd.prog w = .ok (.pointer none) w := fun w => by kernel_rfl
  have hbz := h.box.lt
  obtain ⟨W1, hW1⟩ : ∃ W, W = w.alloc (.cells #[.int .i64 k, .int .i64 t, .string u, .string d, .string i] 50) := ⟨_, rfl⟩
  have b1 : Below w.heap.size w W1 := by rw [hW1]; exact bAl (Below.refl _ _) _
  have bd : Below w.heap.size w W1.drew := bTr b1 (Below.refl _ _).drew
  have RE0 : RowIs W1 w.heap.size #[.int .i64 k, .int .i64 t, .string u, .string d, .string i] 50 := by rw [hW1]; exact RowIs.new _ _ _
  have RE : RowIs W1.drew w.heap.size #[.int .i64 k, .int .i64 t, .string u, .string d, .string i] 50 := RowIs.keep RE0 (Below.refl _ _).drew
  have HW1 := hide hW1.symm
  have H1 := hide (h.keep bd)
  have T1 := hide (h.tch bd)
  have e3 := RE.at (o := 3) (v := .string d) rfl
  have e4 := RE.at (o := 4) (v := .string i) rfl
  have ez := RE.lt
  have c5 := (unhide H1).box.at (o := 5) (v := .map (some mo)) rfl
  have c3 := (unhide H1).box.at (o := 3) (v := .int .i64 x.now) rfl
  have cz := (unhide H1).box.lt
  have hl := look_run (t := 78) kStr Tryd.underlying78 (hz W1.drew) (unhide H1).idm i hi (.pointer none) false (by unfold idMap; rw [hf]; rfl) (by unfold idMap; rw [hf]; rfl)
  clear h hW1 b1 bd hf RE0 RE
  go_enter Tryd.func45, Tryd.ntmps45
  go_upto_region 1 with fail
  refine wp_world (unhide HW1) ?_
  clear HW1
  go_region
  all_goals
    go_wp2_with fail
    go_ret2
    exact ⟨rfl, unhide H1, unhide T1⟩
end
section
variable {w0 w : World} {b : Nat} {ka : Option Addr} {kl kc : Nat} {x : SsT} {mo me : Nat} {ov : Value} {Q : List BlT} {M : ByteArray → Option Value} {n : Nat}
set_option maxHeartbeats 4000000 in
theorem sh_stolen (h : PsAt w0 w b ka kl kc x mo me ov Q M n) (hn : n ≤ x.given) (k t : Int) (u d i : ByteArray) (hi : i.size ≤ maxLen) (hd : d.size ≤ maxLen) {j : Nat} (hj : j < Q.length) (hf : findI (idsL x.list) i = some j) (hs : ¬ (lastI (x.list[j]'(h.okQ hj)).ids = i ∧ (x.list[j]'(h.okQ hj)).device = d)) :
    Calls Tryd.prog 45 #[.pointer (some ⟨b, 0, none⟩), .agg #[.int .i64 k, .int .i64 t, .string u, .string d, .string i]] w fun e w' => e = .returned (.tuple #[.pointer none, .int .i64 4]) ∧ PsEnd w0 w b ka kl kc { x with list := x.list.set j { (x.list[j]'(h.okQ hj)) with dead := true } } mo me w' := by
  have hjx := h.okQ hj
  have hz : ∀ w, (zeroValue 84).run Tryd.prog w = .ok (.pointer none) w := fun w => by kernel_rfl
  have hbz := h.box.lt
  obtain ⟨W1, hW1⟩ : ∃ W, W = w.alloc (.cells #[.int .i64 k, .int .i64 t, .string u, .string d, .string i] 50) := ⟨_, rfl⟩
  have b1 : Below w.heap.size w W1 := by rw [hW1]; exact bAl (Below.refl _ _) _
  have bd : Below w.heap.size w W1.drew := bTr b1 (Below.refl _ _).drew
  have RE0 : RowIs W1 w.heap.size #[.int .i64 k, .int .i64 t, .string u, .string d, .string i] 50 := by rw [hW1]; exact RowIs.new _ _ _
  have RE : RowIs W1.drew w.heap.size #[.int .i64 k, .int .i64 t, .string u, .string d, .string i] 50 := RowIs.keep RE0 (Below.refl _ _).drew
  have HW1 := hide hW1.symm
  have H1 := hide (h.keep bd)
  have T1 := hide (h.tch bd)
  have e3 := RE.at (o := 3) (v := .string d) rfl
  have e4 := RE.at (o := 4) (v := .string i) rfl
  have ez := RE.lt
  have c5 := (unhide H1).box.at (o := 5) (v := .map (some mo)) rfl
  have c3 := (unhide H1).box.at (o := 3) (v := .int .i64 x.now) rfl
  have cz := (unhide H1).box.lt
  have hl := look_run (t := 78) kStr Tryd.underlying78 (hz W1.drew) (unhide H1).idm i hi (.pointer (some ⟨Q[j].sb, 0, none⟩)) true (by unfold idMap; rw [hf]; simp [List.getD_eq_getElem?_getD, hj]) (by unfold idMap; rw [hf]; rfl)
  have rj := (unhide H1).ses j hj hjx
  have ne : Nonempty (Kept W1.drew) := ⟨⟨W1.drew, Below.refl _ _⟩⟩
  have k3 := kept_cell RE.lt e3
  have k4 := kept_cell RE.lt e4
  have r0 := kept_cell rj.lt (rj.at (o := 0) (v := .string (lastI (x.list[j]'hjx).ids)) rfl)
  have r2 := kept_cell rj.lt (rj.at (o := 2) (v := .string (x.list[j]'hjx).device) rfl)
  have rz := rj.lt
  have qd := hide (fun (w' : World) (hb : Below W1.drew.heap.size W1.drew w') => die_any ((unhide H1).keep hb) hn hj)
  clear hW1 b1 bd hf RE0 RE rj
  by_cases p1 : lastI (x.list[j]'hjx).ids = i
  · have p2 : ¬ (x.list[j]'hjx).device = d := fun e => hs ⟨p1, e⟩
    have p3 := sNeB (fun e : d = (x.list[j]'hjx).device => p2 e.symm)
    rw [p1] at r0
    clear hs p2 p1
    go_enter Tryd.func45, Tryd.ntmps45
    go_upto_region 1 with fail
    refine wp_world (unhide HW1) ?_
    clear HW1
    go_region
    all_goals
      go_upto_region 4 with fail
      refine wp_region_kept (by kernel_rfl) (by kernel_rfl) ?_
      repeat (first
        | go_big_quiet_step ((fail))
        | quiet_step ((fail)))
      refine wpQuiet_nil ?_
      rintro _ ⟨q, rfl⟩
      go_wp2_with fail
      refine (unhide qd _ q.h).mono ?_
      rintro e w5 ⟨rfl, he5⟩
      have HE := hide he5
      clear he5
      go_wp2_with fail
      go_ret2
      exact ⟨rfl, (unhide HE).1, ((unhide T1).trans ((unhide H1).tch q.h)).trans (unhide HE).2⟩
  · have p3 := sNeB (fun e : i = lastI (x.list[j]'hjx).ids => p1 e.symm)
    clear hs p1
    go_enter Tryd.func45, Tryd.ntmps45
    go_upto_region 1 with fail
    refine wp_world (unhide HW1) ?_
    clear HW1
    go_region
    all_goals
      go_upto_region 4 with fail
      refine wp_region_kept (by kernel_rfl) (by kernel_rfl) ?_
      repeat (first
        | go_big_quiet_step ((fail))
        | quiet_step ((fail)))
      refine wpQuiet_nil ?_
      rintro _ ⟨q, rfl⟩
      go_wp2_with fail
      refine (unhide qd _ q.h).mono ?_
      rintro e w5 ⟨rfl, he5⟩
      have HE := hide he5
      clear he5
      go_wp2_with fail
      go_ret2
      exact ⟨rfl, (unhide HE).1, ((unhide T1).trans ((unhide H1).tch q.h)).trans (unhide HE).2⟩
end
end Go.Proofs.YtlbbjkpdionieaaDoor
/- Sessions: the session that an event shows, when it is its own. -/
namespace Go.Proofs.YtlbbjkpdionieaaDoor
set_option linter.unusedSimpArgs false
set_option linter.unusedVariables false
set_option maxRecDepth 20000
open Go.RowKit Go.Maps

section
variable {w0 w : World} {b : Nat} {ka : Option Addr} {kl kc : Nat} {x : SsT} {mo me : Nat} {ov : Value} {Q : List BlT} {M : ByteArray → Option Value} {n : Nat}
set_option maxHeartbeats 4000000 in
theorem sh_dead (h : PsAt w0 w b ka kl kc x mo me ov Q M n) (k t : Int) (u d i : ByteArray) (hi : i.size ≤ maxLen) (hd : d.size ≤ maxLen) {j : Nat} (hj : j < Q.length) (hf : findI (idsL x.list) i = some j) (hs : lastI (x.list[j]'(h.okQ hj)).ids = i ∧ (x.list[j]'(h.okQ hj)).device = d) (hde : (x.list[j]'(h.okQ hj)).dead = true) :
    Calls Tryd.prog 45 #[.pointer (some ⟨b, 0, none⟩), .agg #[.int .i64 k, .int .i64 t, .string u, .string d, .string i]] w fun e w' => e = .returned (.tuple #[.pointer none, .int .i64 5]) ∧ PsAt w0 w' b ka kl kc x mo me ov Q M n ∧ Tch StI w0.heap.size w w' := by
  have hjx := h.okQ hj
  have hz : ∀ w, (zeroValue 84).run Tryd.prog w = .ok (.pointer none) w := fun w => by kernel_rfl
  have hbz := h.box.lt
  obtain ⟨W1, hW1⟩ : ∃ W, W = w.alloc (.cells #[.int .i64 k, .int .i64 t, .string u, .string d, .string i] 50) := ⟨_, rfl⟩
  have b1 : Below w.heap.size w W1 := by rw [hW1]; exact bAl (Below.refl _ _) _
  have bd : Below w.heap.size w W1.drew := bTr b1 (Below.refl _ _).drew
  have RE0 : RowIs W1 w.heap.size #[.int .i64 k, .int .i64 t, .string u, .string d, .string i] 50 := by rw [hW1]; exact RowIs.new _ _ _
  have RE : RowIs W1.drew w.heap.size #[.int .i64 k, .int .i64 t, .string u, .string d, .string i] 50 := RowIs.keep RE0 (Below.refl _ _).drew
  have HW1 := hide hW1.symm
  have H1 := hide (h.keep bd)
  have T1 := hide (h.tch bd)
  have e3 := RE.at (o := 3) (v := .string d) rfl
  have e4 := RE.at (o := 4) (v := .string i) rfl
  have ez := RE.lt
  have c5 := (unhide H1).box.at (o := 5) (v := .map (some mo)) rfl
  have c3 := (unhide H1).box.at (o := 3) (v := .int .i64 x.now) rfl
  have cz := (unhide H1).box.lt
  have hl := look_run (t := 78) kStr Tryd.underlying78 (hz W1.drew) (unhide H1).idm i hi (.pointer (some ⟨Q[j].sb, 0, none⟩)) true (by unfold idMap; rw [hf]; simp [List.getD_eq_getElem?_getD, hj]) (by unfold idMap; rw [hf]; rfl)
  have rj := (unhide H1).ses j hj hjx
  have ne : Nonempty (Kept W1.drew) := ⟨⟨W1.drew, Below.refl _ _⟩⟩
  have k3 := kept_cell RE.lt e3
  have k4 := kept_cell RE.lt e4
  have r0 := kept_cell rj.lt (rj.at (o := 0) (v := .string (lastI (x.list[j]'hjx).ids)) rfl)
  have r2 := kept_cell rj.lt (rj.at (o := 2) (v := .string (x.list[j]'hjx).device) rfl)
  have rz := rj.lt
  have qi := hide (fun (w' : World) (hb : Below W1.drew.heap.size W1.drew w') => isDead_any Q[j].sb Q[j].en Q[j].ev Q[j].ce Q[j].cd w' ((((unhide H1).keep hb).ses j hj hjx).at (o := 6) rfl) ((((unhide H1).keep hb).ses j hj hjx).at (o := 7) rfl) (((unhide H1).keep hb).che j hj) (((unhide H1).keep hb).chv j hj))
  rw [← h.dd j hj hjx, hde] at qi
  clear hW1 b1 bd hf RE0 RE rj
  rw [hs.1] at r0
  rw [hs.2] at r2
  clear hs hde
  go_enter Tryd.func45, Tryd.ntmps45
  go_upto_region 1 with fail
  refine wp_world (unhide HW1) ?_
  clear HW1
  go_region
  all_goals
    go_upto_region 4 with fail
    refine wp_region_kept (by kernel_rfl) (by kernel_rfl) ?_
    repeat (first
      | go_big_quiet_step ((fail))
      | quiet_step ((fail)))
    refine wpQuiet_nil ?_
    rintro _ ⟨q, rfl⟩
    go_wp2_with fail
    refine (unhide qi _ q.h).mono ?_
    rintro e w5 ⟨rfl, hb5⟩
    have B5 := hide (bTr q.h hb5)
    clear hb5
    go_wp2_with fail
    go_ret2
    exact ⟨rfl, (unhide H1).keep (unhide B5), (unhide T1).trans ((unhide H1).tch (unhide B5))⟩
end
section
variable {w0 w : World} {b : Nat} {ka : Option Addr} {kl kc : Nat} {x : SsT} {mo me : Nat} {ov : Value} {Q : List BlT} {M : ByteArray → Option Value} {n : Nat}
set_option maxHeartbeats 4000000 in
theorem sh_over (h : PsAt w0 w b ka kl kc x mo me ov Q M n) (k t : Int) (u d i : ByteArray) (hi : i.size ≤ maxLen) (hd : d.size ≤ maxLen) {j : Nat} (hj : j < Q.length) (hf : findI (idsL x.list) i = some j) (hs : lastI (x.list[j]'(h.okQ hj)).ids = i ∧ (x.list[j]'(h.okQ hj)).device = d) (hde : (x.list[j]'(h.okQ hj)).dead = false) (g1 : 0 ≤ (x.list[j]'(h.okQ hj)).login ∧ (x.list[j]'(h.okQ hj)).login ≤ 100000000000) (g2 : 0 ≤ (x.list[j]'(h.okQ hj)).last ∧ (x.list[j]'(h.okQ hj)).last ≤ 100000000000) (g3 : 0 ≤ x.idle ∧ x.idle ≤ 1000000) (g4 : 0 ≤ x.most ∧ x.most ≤ 1000000) (ho : overS x (x.list[j]'(h.okQ hj)) x.now = true) :
    Calls Tryd.prog 45 #[.pointer (some ⟨b, 0, none⟩), .agg #[.int .i64 k, .int .i64 t, .string u, .string d, .string i]] w fun e w' => e = .returned (.tuple #[.pointer none, .int .i64 6]) ∧ PsAt w0 w' b ka kl kc x mo me ov Q M n ∧ Tch StI w0.heap.size w w' := by
  have hjx := h.okQ hj
  have hz : ∀ w, (zeroValue 84).run Tryd.prog w = .ok (.pointer none) w := fun w => by kernel_rfl
  have hbz := h.box.lt
  obtain ⟨W1, hW1⟩ : ∃ W, W = w.alloc (.cells #[.int .i64 k, .int .i64 t, .string u, .string d, .string i] 50) := ⟨_, rfl⟩
  have b1 : Below w.heap.size w W1 := by rw [hW1]; exact bAl (Below.refl _ _) _
  have bd : Below w.heap.size w W1.drew := bTr b1 (Below.refl _ _).drew
  have RE0 : RowIs W1 w.heap.size #[.int .i64 k, .int .i64 t, .string u, .string d, .string i] 50 := by rw [hW1]; exact RowIs.new _ _ _
  have RE : RowIs W1.drew w.heap.size #[.int .i64 k, .int .i64 t, .string u, .string d, .string i] 50 := RowIs.keep RE0 (Below.refl _ _).drew
  have HW1 := hide hW1.symm
  have H1 := hide (h.keep bd)
  have T1 := hide (h.tch bd)
  have e3 := RE.at (o := 3) (v := .string d) rfl
  have e4 := RE.at (o := 4) (v := .string i) rfl
  have ez := RE.lt
  have c5 := (unhide H1).box.at (o := 5) (v := .map (some mo)) rfl
  have c3 := (unhide H1).box.at (o := 3) (v := .int .i64 x.now) rfl
  have cz := (unhide H1).box.lt
  have hl := look_run (t := 78) kStr Tryd.underlying78 (hz W1.drew) (unhide H1).idm i hi (.pointer (some ⟨Q[j].sb, 0, none⟩)) true (by unfold idMap; rw [hf]; simp [List.getD_eq_getElem?_getD, hj]) (by unfold idMap; rw [hf]; rfl)
  have rj := (unhide H1).ses j hj hjx
  have ne : Nonempty (Kept W1.drew) := ⟨⟨W1.drew, Below.refl _ _⟩⟩
  have k3 := kept_cell RE.lt e3
  have k4 := kept_cell RE.lt e4
  have r0 := kept_cell rj.lt (rj.at (o := 0) (v := .string (lastI (x.list[j]'hjx).ids)) rfl)
  have r2 := kept_cell rj.lt (rj.at (o := 2) (v := .string (x.list[j]'hjx).device) rfl)
  have rz := rj.lt
  have qi := hide (fun (w' : World) (hb : Below W1.drew.heap.size W1.drew w') => isDead_any Q[j].sb Q[j].en Q[j].ev Q[j].ce Q[j].cd w' ((((unhide H1).keep hb).ses j hj hjx).at (o := 6) rfl) ((((unhide H1).keep hb).ses j hj hjx).at (o := 7) rfl) (((unhide H1).keep hb).che j hj) (((unhide H1).keep hb).chv j hj))
  rw [← h.dd j hj hjx, hde] at qi
  clear hW1 b1 bd hf RE0 RE rj
  rw [hs.1] at r0
  rw [hs.2] at r2
  have qo := hide (fun (w' : World) (hb : Below W1.drew.heap.size W1.drew w') => iOver_any b mo me ka kl kc x (x.list[j]'hjx) Q[j] ov x.now w' ((unhide H1).keep hb).box (((unhide H1).keep hb).ses j hj hjx) g1 g2 g3 g4)
  rw [ho] at qo
  have o3 := hide (fun (w' : World) (hb : Below W1.drew.heap.size W1.drew w') => ((unhide H1).keep hb).box.at (o := 3) (v := .int .i64 x.now) rfl)
  have oz := hide (fun (w' : World) (hb : Below W1.drew.heap.size W1.drew w') => ((unhide H1).keep hb).box.lt)
  clear hs hde ho g1 g2 g3 g4
  go_enter Tryd.func45, Tryd.ntmps45
  go_upto_region 1 with fail
  refine wp_world (unhide HW1) ?_
  clear HW1
  go_region
  all_goals
    go_upto_region 4 with fail
    refine wp_region_kept (by kernel_rfl) (by kernel_rfl) ?_
    repeat (first
      | go_big_quiet_step ((fail))
      | quiet_step ((fail)))
    refine wpQuiet_nil ?_
    rintro _ ⟨q, rfl⟩
    go_wp2_with fail
    refine (unhide qi _ q.h).mono ?_
    rintro e w5 ⟨rfl, hb5⟩
    have B5 := hide (bTr q.h hb5)
    clear hb5
    have c35 := unhide o3 _ (unhide B5)
    have z35 := unhide oz _ (unhide B5)
    go_wp2_with fail
    refine (unhide qo _ (unhide B5)).mono ?_
    rintro e w6 ⟨rfl, hb6⟩
    have B6 := hide (bTr (unhide B5) hb6)
    clear hb6
    go_wp2_with fail
    go_ret2
    exact ⟨rfl, (unhide H1).keep (unhide B6), (unhide T1).trans ((unhide H1).tch (unhide B6))⟩
end
section
variable {w0 w : World} {b : Nat} {ka : Option Addr} {kl kc : Nat} {x : SsT} {mo me : Nat} {ov : Value} {Q : List BlT} {M : ByteArray → Option Value} {n : Nat}
set_option maxHeartbeats 4000000 in
theorem sh_fine (h : PsAt w0 w b ka kl kc x mo me ov Q M n) (k t : Int) (u d i : ByteArray) (hi : i.size ≤ maxLen) (hd : d.size ≤ maxLen) {j : Nat} (hj : j < Q.length) (hf : findI (idsL x.list) i = some j) (hs : lastI (x.list[j]'(h.okQ hj)).ids = i ∧ (x.list[j]'(h.okQ hj)).device = d) (hde : (x.list[j]'(h.okQ hj)).dead = false) (g1 : 0 ≤ (x.list[j]'(h.okQ hj)).login ∧ (x.list[j]'(h.okQ hj)).login ≤ 100000000000) (g2 : 0 ≤ (x.list[j]'(h.okQ hj)).last ∧ (x.list[j]'(h.okQ hj)).last ≤ 100000000000) (g3 : 0 ≤ x.idle ∧ x.idle ≤ 1000000) (g4 : 0 ≤ x.most ∧ x.most ≤ 1000000) (ho : overS x (x.list[j]'(h.okQ hj)) x.now = false) :
    Calls Tryd.prog 45 #[.pointer (some ⟨b, 0, none⟩), .agg #[.int .i64 k, .int .i64 t, .string u, .string d, .string i]] w fun e w' => e = .returned (.tuple #[.pointer (some ⟨Q[j].sb, 0, none⟩), .int .i64 0]) ∧ PsAt w0 w' b ka kl kc x mo me ov Q M n ∧ Tch StI w0.heap.size w w' := by
  have hjx := h.okQ hj
  have hz : ∀ w, (zeroValue 84).run Tryd.prog w = .ok (.pointer none) w := fun w => by kernel_rfl
  have hbz := h.box.lt
  obtain ⟨W1, hW1⟩ : ∃ W, W = w.alloc (.cells #[.int .i64 k, .int .i64 t, .string u, .string d, .string i] 50) := ⟨_, rfl⟩
  have b1 : Below w.heap.size w W1 := by rw [hW1]; exact bAl (Below.refl _ _) _
  have bd : Below w.heap.size w W1.drew := bTr b1 (Below.refl _ _).drew
  have RE0 : RowIs W1 w.heap.size #[.int .i64 k, .int .i64 t, .string u, .string d, .string i] 50 := by rw [hW1]; exact RowIs.new _ _ _
  have RE : RowIs W1.drew w.heap.size #[.int .i64 k, .int .i64 t, .string u, .string d, .string i] 50 := RowIs.keep RE0 (Below.refl _ _).drew
  have HW1 := hide hW1.symm
  have H1 := hide (h.keep bd)
  have T1 := hide (h.tch bd)
  have e3 := RE.at (o := 3) (v := .string d) rfl
  have e4 := RE.at (o := 4) (v := .string i) rfl
  have ez := RE.lt
  have c5 := (unhide H1).box.at (o := 5) (v := .map (some mo)) rfl
  have c3 := (unhide H1).box.at (o := 3) (v := .int .i64 x.now) rfl
  have cz := (unhide H1).box.lt
  have hl := look_run (t := 78) kStr Tryd.underlying78 (hz W1.drew) (unhide H1).idm i hi (.pointer (some ⟨Q[j].sb, 0, none⟩)) true (by unfold idMap; rw [hf]; simp [List.getD_eq_getElem?_getD, hj]) (by unfold idMap; rw [hf]; rfl)
  have rj := (unhide H1).ses j hj hjx
  have ne : Nonempty (Kept W1.drew) := ⟨⟨W1.drew, Below.refl _ _⟩⟩
  have k3 := kept_cell RE.lt e3
  have k4 := kept_cell RE.lt e4
  have r0 := kept_cell rj.lt (rj.at (o := 0) (v := .string (lastI (x.list[j]'hjx).ids)) rfl)
  have r2 := kept_cell rj.lt (rj.at (o := 2) (v := .string (x.list[j]'hjx).device) rfl)
  have rz := rj.lt
  have qi := hide (fun (w' : World) (hb : Below W1.drew.heap.size W1.drew w') => isDead_any Q[j].sb Q[j].en Q[j].ev Q[j].ce Q[j].cd w' ((((unhide H1).keep hb).ses j hj hjx).at (o := 6) rfl) ((((unhide H1).keep hb).ses j hj hjx).at (o := 7) rfl) (((unhide H1).keep hb).che j hj) (((unhide H1).keep hb).chv j hj))
  rw [← h.dd j hj hjx, hde] at qi
  clear hW1 b1 bd hf RE0 RE rj
  rw [hs.1] at r0
  rw [hs.2] at r2
  have qo := hide (fun (w' : World) (hb : Below W1.drew.heap.size W1.drew w') => iOver_any b mo me ka kl kc x (x.list[j]'hjx) Q[j] ov x.now w' ((unhide H1).keep hb).box (((unhide H1).keep hb).ses j hj hjx) g1 g2 g3 g4)
  rw [ho] at qo
  have o3 := hide (fun (w' : World) (hb : Below W1.drew.heap.size W1.drew w') => ((unhide H1).keep hb).box.at (o := 3) (v := .int .i64 x.now) rfl)
  have oz := hide (fun (w' : World) (hb : Below W1.drew.heap.size W1.drew w') => ((unhide H1).keep hb).box.lt)
  clear hs hde ho g1 g2 g3 g4
  go_enter Tryd.func45, Tryd.ntmps45
  go_upto_region 1 with fail
  refine wp_world (unhide HW1) ?_
  clear HW1
  go_region
  all_goals
    go_upto_region 4 with fail
    refine wp_region_kept (by kernel_rfl) (by kernel_rfl) ?_
    repeat (first
      | go_big_quiet_step ((fail))
      | quiet_step ((fail)))
    refine wpQuiet_nil ?_
    rintro _ ⟨q, rfl⟩
    go_wp2_with fail
    refine (unhide qi _ q.h).mono ?_
    rintro e w5 ⟨rfl, hb5⟩
    have B5 := hide (bTr q.h hb5)
    clear hb5
    have c35 := unhide o3 _ (unhide B5)
    have z35 := unhide oz _ (unhide B5)
    go_wp2_with fail
    refine (unhide qo _ (unhide B5)).mono ?_
    rintro e w6 ⟨rfl, hb6⟩
    have B6 := hide (bTr (unhide B5) hb6)
    clear hb6
    go_wp2_with fail
    go_ret2
    exact ⟨rfl, (unhide H1).keep (unhide B6), (unhide T1).trans ((unhide H1).tch (unhide B6))⟩
end
end Go.Proofs.YtlbbjkpdionieaaDoor
