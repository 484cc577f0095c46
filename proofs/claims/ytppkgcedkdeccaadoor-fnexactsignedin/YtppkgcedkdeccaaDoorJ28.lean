/- LPj, LPk, LPl, one behind the other. -/
import Derived.Test.YtppkgcedkdeccaaDoorJ27
import Derived.Maps.OwnSet
import Derived.Conc.EventLaws
/- Sessions: signing out everywhere, by the program. -/
namespace Go.Proofs.YtppkgcedkdeccaaDoor
set_option linter.unusedSimpArgs false
set_option linter.unusedVariables false
set_option maxRecDepth 20000
open Go.RowKit Go.Maps


section
variable {α : Type} [DecidableEq α]
def delK (m : α → Option Value) (y : α) : α → Option Value := fun z => if z = y then none else m z
theorem wpList_del_km {P : Program} {k : TypeId} {enc : α → Value} {ok : α → Prop} (w : World) {ops : Array Oper} {rest : List Oper} {o : Oper} {a : Act} {Q : Exit → Act → World → Prop} (K : KeyKind P k enc ok) (hg : o.guard = none) (m x : Operand) (t : TypeId) (hop : o.op = Op.call { callee := Callee.builtin Builtin.delete, args := #[m, x], argTypes := #[t, k] }) (e : TypeId) (ht : P.underlying t = some (.map k e)) (b n : Nat) (M : α → Option Value) (hm : a.eval m = .map (some b)) (hk : KM P k enc w b n M)
    (y : α) (hx : a.eval x = enc y) (hy : ok y)
    (hK : ∀ w', KM P k enc w' b n (delK M y) → w.grownBy w' (some b) → w'.heap.size = w.heap.size → wpList P ops Q rest (a.put o.dst (.tuple #[])) w') : wpList P ops Q (o :: rest) a w := by
  obtain ⟨D, hown, hD⟩ := hk
  obtain ⟨kl, hkl⟩ := K.key y hy
  refine wpList_delete_own w hg m x t k hop e K.law ht hvR b n D hm hown (enc y) kl hx hkl ?_
  intro w' h1 h2
  refine hK w' ⟨_, h1, fun y' kl' hk' => ?_⟩ h2.grown (by obtain ⟨es, cl, es', cl', _, rfl⟩ := h2; simp [ChangeMaps.setBlock])
  by_cases e : y' = y
  · subst e
    obtain rfl : kl' = kl := by rw [hkl] at hk'; exact (Option.some.inj hk').symm
    have hu : delK M y' y' = none := by simp [delK]
    rw [hu]
    exact ⟨Maps.has_del_same, fun c' hc' => by cases hc'⟩
  · have hne : kl' ≠ kl := fun e2 => e (K.inj _ _ (K.law.inj hk' (by rw [e2]; exact hkl)))
    have hu : delK M y y' = M y' := by simp [delK, e]
    rw [hu, Maps.has_del_other hne]
    refine ⟨(hD y' kl' hk').1, fun c' hc' z => ?_⟩
    rw [Maps.atKey_del_other hne]
    exact (hD y' kl' hk').2 c' hc' z
end
def shutQ (c : Nat) (q : BlT) : BlT := if q.ev = c then { q with cd := true } else q
theorem shutQ_f (c : Nat) (q : BlT) : (shutQ c q).sb = q.sb ∧ (shutQ c q).en = q.en ∧ (shutQ c q).ev = q.ev ∧ (shutQ c q).ce = q.ce := by unfold shutQ; split <;> exact ⟨rfl, rfl, rfl, rfl⟩
section
variable {w0 w : World} {b : Nat} {ka : Option Addr} {kl kc : Nat} {x : SsT} {mo me : Nat} {ov : Value} {Q : List BlT} {M : ByteArray → Option Value} {n : Nat}
theorem PsAt.shut (h : PsAt w0 w b ka kl kc x mo me ov Q M n) {u : ByteArray} {c : Nat} {w' : World} (hM : M u = some (.chan (some c))) (hk : ∀ g, g < w.heap.size → g ≠ c → g ≠ me → w'.heap[g]? = w.heap[g]?) (hc : ChanAt w' c true) (hm : KM Tryd.prog 9 Value.string w' me n (delK M u)) (hB : Below w0.heap.size w0 w') :
    PsAt w0 w' b ka kl kc { x with list := killAll u x.list } mo me ov (Q.map (shutQ c)) (delK M u) n := by
  obtain ⟨c0, cc, c1, c2, c3⟩ := h.m1 _ _ hM
  cases cc
  obtain ⟨s1, r1, ec⟩ := c1
  obtain ⟨es, cl, em⟩ := h.evm.is
  have row : ∀ {g : Nat} {C : Array Value} {T : TypeId}, RowIs w g C T → RowIs w' g C T := fun {g C T} hr => by
    have hl := hr.lt
    unfold RowIs at *
    rw [hk g hl (by rintro rfl; rw [ec] at hr; cases hr) (by rintro rfl; rw [em] at hr; cases hr)]
    exact hr
  have ch : ∀ {k : Nat} {d : Bool}, k ≠ c → ChanAt w k d → ChanAt w' k d := fun {k d} hn hc2 => hc2.same (hk k hc2.lt hn (by
    rintro rfl
    obtain ⟨s, r, e2⟩ := hc2
    rw [em] at e2
    cases e2))
  have gq : ∀ i (hi : i < Q.length) (h' : i < (Q.map (shutQ c)).length), (Q.map (shutQ c))[i] = shutQ c Q[i] := fun i hi h' => by simp
  have gx : ∀ i (hi : i < x.list.length) (h' : i < (killAll u x.list).length), (killAll u x.list)[i] = if x.list[i].user = u then { (x.list[i]) with dead := true } else x.list[i] := fun i hi h' => by simp [killAll]
  have evc : ∀ i (hi : i < Q.length), Q[i].ev = c → Q[i].cd = false ∧ (x.list[i]'(h.okQ hi)).user = u := fun i hi e => by
    have q : Q[i].cd = false := by
      have a := h.chv i hi
      rw [e] at a
      exact a.uniq ⟨s1, r1, ec⟩
    rcases h.m2 i hi (h.okQ hi) with e2 | e2
    · rw [q] at e2; cases e2
    · exact ⟨q, h.m3 _ _ _ (by rw [e2, e]) hM⟩
  have uev : ∀ i (hi : i < Q.length), (x.list[i]'(h.okQ hi)).user = u → Q[i].cd = true ∨ Q[i].ev = c := fun i hi e => by
    rcases h.m2 i hi (h.okQ hi) with e2 | e2
    · exact .inl e2
    · rw [e, hM] at e2
      cases e2
      exact .inr rfl
  have pv : ptrV (Q.map (shutQ c)) = ptrV Q := by
    unfold ptrV
    rw [List.map_map]
    refine List.map_congr_left fun q _ => ?_
    show (.pointer (some ⟨(shutQ c q).sb, 0, none⟩) : Value) = _
    rw [(shutQ_f c q).1]
  have im : idMap { x with list := killAll u x.list } (Q.map (shutQ c)) = idMap x Q := by
    funext y
    unfold idMap
    rw [idsL_killAll]
    cases e : findI (idsL x.list) y with
    | none => rfl
    | some i =>
      have hi : i < Q.length := by
        have q := (findK_some e).1
        rw [h.len]
        unfold idsL at q
        simpa using q
      simp only [Option.map_some]
      rw [List.getD_eq_getElem?_getD, List.getD_eq_getElem?_getD, List.getElem?_eq_getElem (by simpa using hi), List.getElem?_eq_getElem hi]
      simp only [Option.getD_some]
      rw [gq i hi, (shutQ_f c _).1]
  refine ⟨row h.box, by simpa [killAll] using h.len, fun i hi hi' => ?_, fun i hi => ?_, fun i hi => ?_, fun i hi hi' => ?_, fun i k hi hk2 hn => ?_, fun i k hi hk2 hn => ?_, fun i k hi hk2 => ?_, ?_, hm, fun a v hv => ?_, fun i hi hi' => ?_, fun a a' v hv hv' => ?_, ?_, fun i hi => ?_, h.lom, hB, h.lo⟩
  · have h1 : i < Q.length := by simpa using hi
    have h2 := h.okQ h1
    show RowIs w' ((Q.map (shutQ c))[i]).sb (sC ((killAll u x.list)[i]) ((Q.map (shutQ c))[i])) _
    rw [gq i h1, gx i h2]
    obtain ⟨a1, a2, a3, a4⟩ := shutQ_f c Q[i]
    rw [a1]
    have q : sC (if x.list[i].user = u then { (x.list[i]) with dead := true } else x.list[i]) (shutQ c Q[i]) = sC x.list[i] Q[i] := by
      unfold sC
      rw [a2, a3]
      split <;> rfl
    rw [q]
    exact row (h.ses i h1 h2)
  · have h1 : i < Q.length := by simpa using hi
    rw [gq i h1, (shutQ_f c Q[i]).2.1, (shutQ_f c Q[i]).2.2.2]
    exact ch (c3 i h1) (h.che i h1)
  · have h1 : i < Q.length := by simpa using hi
    rw [gq i h1, (shutQ_f c Q[i]).2.2.1]
    by_cases e : Q[i].ev = c
    · rw [e]
      unfold shutQ
      rw [if_pos e]
      exact hc
    · unfold shutQ
      rw [if_neg e]
      exact ch e (h.chv i h1)
  · have h1 : i < Q.length := by simpa using hi
    have h2 := h.okQ h1
    show ((killAll u x.list)[i]).dead = _
    rw [gq i h1, gx i h2, (shutQ_f c Q[i]).2.2.2]
    by_cases e : Q[i].ev = c
    · rw [if_pos (evc i h1 e).2]
      unfold shutQ
      rw [if_pos e]
      simp
    · unfold shutQ
      rw [if_neg e]
      by_cases e2 : x.list[i].user = u
      · rw [if_pos e2]
        rcases uev i h1 e2 with e3 | e3
        · rw [e3]; simp
        · exact absurd e3 e
      · rw [if_neg e2]
        exact h.dd i h1 h2
  · have h1 : i < Q.length := by simpa using hi
    have h2 : k < Q.length := by simpa using hk2
    rw [gq i h1, gq k h2, (shutQ_f c _).1, (shutQ_f c _).1]
    exact h.sbA i k h1 h2 hn
  · have h1 : i < Q.length := by simpa using hi
    have h2 : k < Q.length := by simpa using hk2
    rw [gq i h1, gq k h2, (shutQ_f c _).2.1, (shutQ_f c _).2.1]
    exact h.enA i k h1 h2 hn
  · have h1 : i < Q.length := by simpa using hi
    have h2 : k < Q.length := by simpa using hk2
    rw [gq i h1, gq k h2, (shutQ_f c _).2.1, (shutQ_f c _).2.2.1]
    exact h.nv i k h1 h2
  · rw [im]
    exact h.idm.block (hk mo h.idm.lt (by
      obtain ⟨es2, cl2, e2⟩ := h.idm.is
      rintro rfl
      rw [ec] at e2
      cases e2) h.lom.2.2.1)
  · unfold delK at hv
    split at hv
    · cases hv
    · rename_i ne
      obtain ⟨c', a1, a2, a3, a4⟩ := h.m1 a v hv
      refine ⟨c', a1, ch ?_ a2, a3, fun i hi => ?_⟩
      · rintro rfl
        exact ne (h.m3 _ _ _ (by rw [hv, a1]) hM)
      · have h1 : i < Q.length := by simpa using hi
        rw [gq i h1, (shutQ_f c _).2.1]
        exact a4 i h1
  · have h1 : i < Q.length := by simpa using hi
    have h2 := h.okQ h1
    show ((Q.map (shutQ c))[i]).cd = true ∨ delK M u ((killAll u x.list)[i]).user = some (.chan (some ((Q.map (shutQ c))[i]).ev))
    rw [gq i h1, gx i h2, (shutQ_f c _).2.2.1]
    have q : (if x.list[i].user = u then { (x.list[i]) with dead := true } else x.list[i]).user = x.list[i].user := by split <;> rfl
    rw [q]
    by_cases e : Q[i].ev = c
    · refine .inl ?_
      unfold shutQ
      rw [if_pos e]
    · unfold shutQ
      rw [if_neg e]
      rcases h.m2 i h1 h2 with e2 | e2
      · exact .inl e2
      · refine .inr ?_
        unfold delK
        rw [if_neg (fun e3 => by rcases uev i h1 e3 with e4 | e4
                                 · exact e (by rw [e3, hM] at e2; cases e2; rfl)
                                 · exact e e4)]
        exact e2
  · unfold delK at hv hv'
    split at hv
    · cases hv
    · split at hv'
      · cases hv'
      · exact h.m3 a a' v hv hv'
  · rw [pv, List.length_map]
    exact own_blk h.own (fun g hg => by
      obtain ⟨C, hC⟩ := own_is h.own hg
      exact hk g (h.own.lt g hg).2 (by rintro rfl; rw [ec] at hC; cases hC) (by rintro rfl; rw [em] at hC; cases hC))
  · have h1 : i < Q.length := by simpa using hi
    rw [gq i h1, (shutQ_f c _).1, (shutQ_f c _).2.1, (shutQ_f c _).2.2.1]
    exact h.lows i h1
theorem PsAt.none (h : PsAt w0 w b ka kl kc x mo me ov Q M n) {u : ByteArray} (hM : M u = none) : killAll u x.list = x.list := by
  unfold killAll
  refine List.ext_getElem (by simp) fun i h1 h2 => ?_
  have hi : i < Q.length := by rw [h.len]; exact h2
  simp only [List.getElem_map]
  split
  · rename_i e
    have d : x.list[i].dead = true := by
      rw [h.dd i hi h2]
      rcases h.m2 i hi h2 with e2 | e2
      · rw [e2]; simp
      · rw [e, hM] at e2; cases e2
    have : ∀ s : SxT, s.dead = true → { s with dead := true } = s := fun s hs => by cases s; simp at hs; subst hs; rfl
    exact this _ d
  · rfl
end
end Go.Proofs.YtppkgcedkdeccaaDoor
/- Sessions: logoutAll. -/
namespace Go.Proofs.YtppkgcedkdeccaaDoor
set_option linter.unusedSimpArgs false
set_option linter.unusedVariables false
set_option maxRecDepth 20000
open Go.RowKit Go.Maps


section
variable {w0 w : World} {b : Nat} {ka : Option Addr} {kl kc : Nat} {x : SsT} {mo me : Nat} {ov : Value} {Q : List BlT} {M : ByteArray → Option Value} {n : Nat}
set_option maxHeartbeats 4000000 in
theorem logoutAll_any (h : PsAt w0 w b ka kl kc x mo me ov Q M n) (hn : n ≤ x.given) (u : ByteArray) (hu : u.size ≤ maxLen) :
    Calls Tryd.prog 59 #[.pointer (some ⟨b, 0, none⟩), .string u] w fun e w' => e = .returned (.tuple #[]) ∧ PsEnd w0 w b ka kl kc { x with list := killAll u x.list } mo me w' := by
  have HH := hide h
  have hz : ∀ w, (zeroValue 101).run Tryd.prog w = .ok (.chan none) w := fun w => by kernel_rfl
  have c6 := h.box.at (o := 6) (v := .map (some me)) rfl
  have cz := h.box.lt
  have HK := hide h.evm
  cases hM : M u with
  | none =>
    have er := hide (show (M u).isSome = false by rw [hM]; rfl)
    have ev := hide (show (M u).getD (.chan none) = .chan none by rw [hM]; rfl)
    have HM := hide hM
    clear h hM
    go_enter Tryd.func59, Tryd.ntmps59
    go_wp2_with (at_lookup; refine wpList_look_km _ kStr rfl _ _ _ rfl _ Tryd.underlying66 (hz _) me n _ rfl (unhide HK) u rfl hu _ _ (unhide ev) (unhide er) ?_)
    go_end0
    refine ⟨rfl, ⟨ov, Q, M, n, hn, ?_⟩, Tch.refl _ _ _⟩
    rw [(unhide HH).none (unhide HM)]
    exact unhide HH
  | some v =>
    obtain ⟨c, rfl, ⟨s, r, hc⟩, lc, hen⟩ := h.m1 u v hM
    have er := hide (show (M u).isSome = true by rw [hM]; rfl)
    have ev := hide (show (M u).getD (.chan none) = .chan (some c) by rw [hM]; rfl)
    have HM := hide hM
    have HB := hide h.bel
    have hLo := h.lo
    have hlm := h.lom
    have hcl := Go.run_close_open (P := Tryd.prog) (w := w) #[101] 0 hc
    have CO := hide (fun g hg => closeW_other w c s r g hg)
    have CS := hide (closeW_same w c s r (Array.getElem?_eq_some_iff.1 hc).1)
    have BX := hide (show RowIs (closeW w c s r) b (vC ka kl kc x mo me ov) 69 by
      have q := h.box
      unfold RowIs at *
      rw [closeW_other w c s r b (by omega)]; exact q)
    have KC := hide (show KM Tryd.prog 9 Value.string (closeW w c s r) me n M from h.evm.block (closeW_other w c s r me (by
      obtain ⟨es, cl, em⟩ := h.evm.is
      rintro rfl
      rw [hc] at em
      cases em)))
    have NM := hide (show me ≠ c by
      obtain ⟨es, cl, em⟩ := h.evm.is
      rintro rfl
      rw [hc] at em
      cases em)
    have BC := hide (show Below w0.heap.size w (closeW w c s r) from Below.close (Below.refl _ _) (by omega) s r)
    have TC := hide (show Tch StI w0.heap.size w (closeW w c s r) from Tch.close ⟨s, r, hc⟩ (by omega) s r)
    clear h hM hen
    obtain ⟨W1, hW1⟩ : ∃ W, W = closeW w c s r := ⟨_, rfl⟩
    have HW1 := hide hW1
    rw [show ({ w with heap := w.heap.setIfInBounds c (.chan 0 #[] true s r false) } : World) = W1 from hW1.symm] at hcl
    rw [← hW1] at CO CS BX KC BC TC
    clear hW1
    have d6 := (unhide BX).at (o := 6) (v := .map (some me)) rfl
    have dz := (unhide BX).lt
    go_enter Tryd.func59, Tryd.ntmps59
    go_wp2_with (first | (at_lookup; refine wpList_look_km _ kStr rfl _ _ _ rfl _ Tryd.underlying66 (hz _) me n _ rfl (unhide HK) u rfl hu _ _ (unhide ev) (unhide er) ?_) | (refine wpList_del_km _ kStr rfl _ _ _ rfl _ Tryd.underlying66 me n _ rfl (unhide KC) u rfl hu ?_; intro w5 hk5 hg5 hs5; have K5 := hide hk5; have G5 := hide hg5; clear hk5 hg5 hs5))
    go_end0
    have g5 := unhide G5
    have bc := unhide BC
    have bel := unhide HB
    have m1 := (unhide KC).is
    have t5 := Tch.but3 (b := w0.heap.size) (But3.grown (p := me) (q := me) g5) (by omega) (by omega) m1
    have q := bc.trans t5.bel
    refine ⟨rfl, ⟨ov, _, _, n, hn, (unhide HH).shut (unhide HM) (fun g hg h1 h2 => (g5.block g (Nat.lt_of_lt_of_le hg bc.size) (fun e => h2 (Option.some.inj e))).trans (unhide CO g h1)) ⟨s, r, (g5.block c (by have := Array.getElem?_eq_some_iff.1 (unhide CS); exact this.1) (fun e => unhide NM (Option.some.inj e).symm)).trans (unhide CS)⟩ (unhide K5) (bel.trans ⟨q.os, q.tape, q.output, q.size, fun g hg => q.block g (by omega)⟩)⟩, (unhide TC).trans t5⟩
end
end Go.Proofs.YtppkgcedkdeccaaDoor
/- Sessions: the session that an event shows. -/
namespace Go.Proofs.YtppkgcedkdeccaaDoor
set_option linter.unusedSimpArgs false
set_option linter.unusedVariables false
set_option maxRecDepth 20000
open Go.RowKit Go.Maps


theorem sNeB {a b : ByteArray} (h : ¬ a = b) : (a.toList == b.toList) = false := by
  cases e : (a.toList == b.toList) with
  | false => rfl
  | true =>
    rw [beq_iff_eq, ByteArray.toList_eq, ByteArray.toList_eq] at e
    exact absurd (ByteArray.ext (Array.toList_inj.1 e)) h
theorem look_run {P : Program} {k : TypeId} {α : Type} {enc : α → Value} {ok : α → Prop} {w : World} (K : KeyKind P k enc ok) {t e : TypeId} (ht : P.underlying t = some (.map k e)) {z : Value} (hz : (zeroValue e).run P w = .ok z w) {b n : Nat} {M : α → Option Value} (hk : KM P k enc w b n M) (y : α) (hy : ok y) (v : Value) (r : Bool) (hv : (M y).getD z = v) (hr : (M y).isSome = r) :
    (Instr.lookup t (.map (some b)) (enc y) true).run P w = .ok (.tuple #[v, .bool r]) w := by
  obtain ⟨D, hown, hD⟩ := hk
  obtain ⟨kl, hkl⟩ := K.key y hy
  obtain ⟨v', ps, hrun, hv'⟩ := hown.look_ok K.law ht hz (zd := .held z) (zp := []) rfl hkl
  obtain ⟨h1, h2⟩ := hD y kl hkl
  rw [kd_atKey h1 h2 hv', hv, h1, hr] at hrun
  exact hrun
section
variable {w0 w : World} {b : Nat} {ka : Option Addr} {kl kc : Nat} {x : SsT} {mo me : Nat} {ov : Value} {Q : List BlT} {M : ByteArray → Option Value} {n : Nat}
set_option maxHeartbeats 4000000 in
theorem sh_unknown (h : PsAt w0 w b ka kl kc x mo me ov Q M n) (k t : Int) (u d i : ByteArray) (hi : i.size ≤ maxLen) (hf : findI (idsL x.list) i = none) :
    Calls Tryd.prog 60 #[.pointer (some ⟨b, 0, none⟩), .agg #[.int .i64 k, .int .i64 t, .string u, .string d, .string i]] w fun e w' => e = .returned (.tuple #[.pointer none, .int .i64 3]) ∧ PsAt w0 w' b ka kl kc x mo me ov Q M n ∧ Tch StI w0.heap.size w w' := by
  have hz : ∀ w, (zeroValue 70).run Tryd.prog w = .ok (.pointer none) w := fun w => by kernel_rfl
  have hbz := h.box.lt
  obtain ⟨W1, hW1⟩ : ∃ W, W = w.alloc (.cells #[.int .i64 k, .int .i64 t, .string u, .string d, .string i] 34) := ⟨_, rfl⟩
  have b1 : Below w.heap.size w W1 := by rw [hW1]; exact bAl (Below.refl _ _) _
  have bd : Below w.heap.size w W1.drew := bTr b1 (Below.refl _ _).drew
  have RE0 : RowIs W1 w.heap.size #[.int .i64 k, .int .i64 t, .string u, .string d, .string i] 34 := by rw [hW1]; exact RowIs.new _ _ _
  have RE : RowIs W1.drew w.heap.size #[.int .i64 k, .int .i64 t, .string u, .string d, .string i] 34 := RowIs.keep RE0 (Below.refl _ _).drew
  have HW1 := hide hW1.symm
  have H1 := hide (h.keep bd)
  have T1 := hide (h.tch bd)
  have e3 := RE.at (o := 3) (v := .string d) rfl
  have e4 := RE.at (o := 4) (v := .string i) rfl
  have ez := RE.lt
  have c5 := (unhide H1).box.at (o := 5) (v := .map (some mo)) rfl
  have c3 := (unhide H1).box.at (o := 3) (v := .int .i64 x.now) rfl
  have cz := (unhide H1).box.lt
  have hl := look_run (t := 65) kStr Tryd.underlying65 (hz W1.drew) (unhide H1).idm i hi (.pointer none) false (by unfold idMap; rw [hf]; rfl) (by unfold idMap; rw [hf]; rfl)
  clear h hW1 b1 bd hf RE0 RE
  go_enter Tryd.func60, Tryd.ntmps60
  go_upto_region 1 with fail
  refine wp_world (unhide HW1) ?_
  clear HW1
  go_region
  all_goals
    go_wp2_with fail
    go_ret2
    exact ⟨rfl, unhide H1, unhide T1⟩
end
section
variable {w0 w : World} {b : Nat} {ka : Option Addr} {kl kc : Nat} {x : SsT} {mo me : Nat} {ov : Value} {Q : List BlT} {M : ByteArray → Option Value} {n : Nat}
set_option maxHeartbeats 4000000 in
theorem sh_stolen (h : PsAt w0 w b ka kl kc x mo me ov Q M n) (hn : n ≤ x.given) (k t : Int) (u d i : ByteArray) (hi : i.size ≤ maxLen) (hd : d.size ≤ maxLen) {j : Nat} (hj : j < Q.length) (hf : findI (idsL x.list) i = some j) (hs : ¬ (lastI (x.list[j]'(h.okQ hj)).ids = i ∧ (x.list[j]'(h.okQ hj)).device = d)) :
    Calls Tryd.prog 60 #[.pointer (some ⟨b, 0, none⟩), .agg #[.int .i64 k, .int .i64 t, .string u, .string d, .string i]] w fun e w' => e = .returned (.tuple #[.pointer none, .int .i64 4]) ∧ PsEnd w0 w b ka kl kc { x with list := x.list.set j { (x.list[j]'(h.okQ hj)) with dead := true } } mo me w' := by
  have hjx := h.okQ hj
  have hz : ∀ w, (zeroValue 70).run Tryd.prog w = .ok (.pointer none) w := fun w => by kernel_rfl
  have hbz := h.box.lt
  obtain ⟨W1, hW1⟩ : ∃ W, W = w.alloc (.cells #[.int .i64 k, .int .i64 t, .string u, .string d, .string i] 34) := ⟨_, rfl⟩
  have b1 : Below w.heap.size w W1 := by rw [hW1]; exact bAl (Below.refl _ _) _
  have bd : Below w.heap.size w W1.drew := bTr b1 (Below.refl _ _).drew
  have RE0 : RowIs W1 w.heap.size #[.int .i64 k, .int .i64 t, .string u, .string d, .string i] 34 := by rw [hW1]; exact RowIs.new _ _ _
  have RE : RowIs W1.drew w.heap.size #[.int .i64 k, .int .i64 t, .string u, .string d, .string i] 34 := RowIs.keep RE0 (Below.refl _ _).drew
  have HW1 := hide hW1.symm
  have H1 := hide (h.keep bd)
  have T1 := hide (h.tch bd)
  have e3 := RE.at (o := 3) (v := .string d) rfl
  have e4 := RE.at (o := 4) (v := .string i) rfl
  have ez := RE.lt
  have c5 := (unhide H1).box.at (o := 5) (v := .map (some mo)) rfl
  have c3 := (unhide H1).box.at (o := 3) (v := .int .i64 x.now) rfl
  have cz := (unhide H1).box.lt
  have hl := look_run (t := 65) kStr Tryd.underlying65 (hz W1.drew) (unhide H1).idm i hi (.pointer (some ⟨Q[j].sb, 0, none⟩)) true (by unfold idMap; rw [hf]; simp [List.getD_eq_getElem?_getD, hj]) (by unfold idMap; rw [hf]; rfl)
  have rj := (unhide H1).ses j hj hjx
  have ne : Nonempty (Kept W1.drew) := ⟨⟨W1.drew, Below.refl _ _⟩⟩
  have k3 := kept_cell RE.lt e3
  have k4 := kept_cell RE.lt e4
  have r0 := kept_cell rj.lt (rj.at (o := 0) (v := .string (lastI (x.list[j]'hjx).ids)) rfl)
  have r2 := kept_cell rj.lt (rj.at (o := 2) (v := .string (x.list[j]'hjx).device) rfl)
  have rz := rj.lt
  have qd := hide (fun (w' : World) (hb : Below W1.drew.heap.size W1.drew w') => die_any ((unhide H1).keep hb) hn hj)
  clear hW1 b1 bd hf RE0 RE rj
  by_cases p1 : lastI (x.list[j]'hjx).ids = i
  · have p2 : ¬ (x.list[j]'hjx).device = d := fun e => hs ⟨p1, e⟩
    have p3 := sNeB (fun e : d = (x.list[j]'hjx).device => p2 e.symm)
    rw [p1] at r0
    clear hs p2 p1
    go_enter Tryd.func60, Tryd.ntmps60
    go_upto_region 1 with fail
    refine wp_world (unhide HW1) ?_
    clear HW1
    go_region
    all_goals
      go_upto_region 4 with fail
      refine wp_region_kept (by kernel_rfl) (by kernel_rfl) ?_
      repeat (first
        | go_big_quiet_step ((fail))
        | quiet_step ((fail)))
      refine wpQuiet_nil ?_
      rintro _ ⟨q, rfl⟩
      go_wp2_with fail
      refine (unhide qd _ q.h).mono ?_
      rintro e w5 ⟨rfl, he5⟩
      have HE := hide he5
      clear he5
      go_wp2_with fail
      go_ret2
      exact ⟨rfl, (unhide HE).1, ((unhide T1).trans ((unhide H1).tch q.h)).trans (unhide HE).2⟩
  · have p3 := sNeB (fun e : i = lastI (x.list[j]'hjx).ids => p1 e.symm)
    clear hs p1
    go_enter Tryd.func60, Tryd.ntmps60
    go_upto_region 1 with fail
    refine wp_world (unhide HW1) ?_
    clear HW1
    go_region
    all_goals
      go_upto_region 4 with fail
      refine wp_region_kept (by kernel_rfl) (by kernel_rfl) ?_
      repeat (first
        | go_big_quiet_step ((fail))
        | quiet_step ((fail)))
      refine wpQuiet_nil ?_
      rintro _ ⟨q, rfl⟩
      go_wp2_with fail
      refine (unhide qd _ q.h).mono ?_
      rintro e w5 ⟨rfl, he5⟩
      have HE := hide he5
      clear he5
      go_wp2_with fail
      go_ret2
      exact ⟨rfl, (unhide HE).1, ((unhide T1).trans ((unhide H1).tch q.h)).trans (unhide HE).2⟩
end
end Go.Proofs.YtppkgcedkdeccaaDoor
