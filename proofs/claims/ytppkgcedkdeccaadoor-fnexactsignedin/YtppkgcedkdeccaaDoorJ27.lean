/- LPg, LPh, LPi, one behind the other. -/
import Derived.Test.YtppkgcedkdeccaaDoorJ26
import Derived.Deep.RegionHeld3
import Derived.Deep.Cut
import Derived.Laws.AppendOwn
/- Sessions: what the program keeps while a session is made. -/
namespace Go.Proofs.YtppkgcedkdeccaaDoor
set_option linter.unusedSimpArgs false
set_option linter.unusedVariables false
set_option maxRecDepth 20000
open Go.RowKit Go.Maps


section
variable {w0 w : World} {b : Nat} {ka : Option Addr} {kl kc : Nat} {x : SsT} {mo me : Nat} {ov : Value} {Q : List BlT} {M : ByteArray → Option Value} {n : Nat}
theorem PsAt.every (h : PsAt w0 w b ka kl kc x mo me ov Q M n) {u : ByteArray} {c : Nat} {w' : World} (hE : EvOf w me n M u c w') :
    ∃ M' n', n' ≤ n + 1 ∧ PsAt w0 w' b ka kl kc x mo me ov Q M' n' ∧ M' u = some (.chan (some c)) ∧ ((∃ u', M u' = some (.chan (some c))) ∨ w.heap.size ≤ c) ∧ (∀ v c', M' v = some (.chan (some c')) → c' = c ∨ ∃ v', M v' = some (.chan (some c'))) ∧ But3 me me me w w' := by
  rcases hE with ⟨e, hk, hb⟩ | ⟨e, hc, hch, hk, hb⟩
  · exact ⟨M, n, by omega, h.keep hb, e, .inl ⟨u, e⟩, fun v c' hv => .inr ⟨v, hv⟩, But3.of hb⟩
  · have ne : ∀ g, g < w.heap.size → g ≠ me → w'.heap[g]? = w.heap[g]? := fun g hg hn => hb.block g hg hn hn hn
    have mem : ∃ es cl, w.heap[me]? = some (.map es cl) := h.evm.is
    obtain ⟨es, cl, em⟩ := mem
    have row : ∀ {g : Nat} {C : Array Value} {T : TypeId}, RowIs w g C T → RowIs w' g C T := fun {g C T} hr => by
      have hl := hr.lt
      unfold RowIs at *
      rw [ne g hl (by rintro rfl; rw [em] at hr; cases hr)]
      exact hr
    have ch : ∀ {k : Nat} {d : Bool}, ChanAt w k d → ChanAt w' k d := fun {k d} hc => hc.same (ne k hc.lt (by
      rintro rfl
      obtain ⟨s, r, e2⟩ := hc
      rw [em] at e2
      cases e2))
    have upd : ∀ v, v ≠ u → updK M u (.chan (some c)) v = M v := fun v hv => by unfold updK; rw [if_neg hv]
    have upu : updK M u (.chan (some c)) u = some (.chan (some c)) := by unfold updK; rw [if_pos rfl]
    have old : ∀ v c', M v = some (.chan (some c')) → c' < w.heap.size := fun v c' hv => by
      obtain ⟨c2, a1, a2, _, _⟩ := h.m1 v _ hv
      cases a1
      exact a2.lt
    refine ⟨updK M u (.chan (some c)), n + 1, Nat.le_refl _, ⟨row h.box, h.len, fun i hi hi' => row (h.ses i hi hi'), fun i hi => ch (h.che i hi), fun i hi => ch (h.chv i hi), h.dd, h.sbA, h.enA, h.nv, h.idm.block (ne mo h.idm.lt h.lom.2.2.1), hk, fun v w2 hv => ?_, fun i hi hi' => ?_, fun v v' w2 hv hv' => ?_, own_blk h.own (fun g hg => ?_), h.lows, h.lom, ?_, h.lo⟩, upu, .inr hc, fun v c' hv => ?_, hb⟩
    · by_cases e2 : v = u
      · subst e2
        rw [upu] at hv
        cases hv
        exact ⟨c, rfl, hch, by have := h.box.lt; omega, fun i hi => by have := (h.che i hi).lt; omega⟩
      · rw [upd v e2] at hv
        obtain ⟨c2, a1, a2, a3, a4⟩ := h.m1 v w2 hv
        exact ⟨c2, a1, ch a2, a3, a4⟩
    · rcases h.m2 i hi hi' with q | q
      · exact .inl q
      · refine .inr ?_
        rw [upd _ (fun e2 => by rw [e2, e] at q; cases q)]
        exact q
    · by_cases e2 : v = u
      · by_cases e3 : v' = u
        · rw [e2, e3]
        · rw [e2, upu] at hv
          rw [upd v' e3] at hv'
          cases hv
          have := old v' c hv'
          omega
      · by_cases e3 : v' = u
        · rw [e3, upu] at hv'
          rw [upd v e2] at hv
          cases hv'
          have := old v c hv
          omega
        · rw [upd v e2] at hv
          rw [upd v' e3] at hv'
          exact h.m3 v v' w2 hv hv'
    · obtain ⟨C, hC⟩ := own_is h.own hg
      exact ne g (h.own.lt g hg).2 (by rintro rfl; rw [em] at hC; cases hC)
    · have hlo := h.lo
      have hlm := h.lom
      exact ⟨hb.os.trans h.bel.os, hb.tape.trans h.bel.tape, hb.output.trans h.bel.output, Nat.le_trans h.bel.size hb.size, fun k hk => (ne k (by have := h.bel.size; omega) (by omega)).trans (h.bel.block k hk)⟩
    · by_cases e2 : v = u
      · subst e2
        rw [upu] at hv
        cases hv
        exact .inl rfl
      · rw [upd v e2] at hv
        exact .inr ⟨v, hv⟩
end
theorem Tch.but3 {b p : Nat} {w w' : World} (h : But3 p p p w w') (hb : b ≤ p) (hw : b ≤ w.heap.size) (hm : ∃ es cl, w.heap[p]? = some (.map es cl)) : Tch StI b w w' :=
  ⟨⟨h.os, h.tape, h.output, h.size, fun g hg => h.block g (by omega) (by omega) (by omega) (by omega)⟩, fun k C T f hk hn => by
    obtain ⟨es, cl, e⟩ := hm
    have ne : k ≠ p := by rintro rfl; rw [e] at hk; cases hk
    rw [h.block k (Array.getElem?_eq_some_iff.1 hk).1 ne ne ne]; exact hk⟩
structure PgE (w0 w1 : World) (b : Nat) (ka : Option Addr) (kl kc : Nat) (x : SsT) (mo me : Nat) (ov : Value) (Q : List BlT) (M : ByteArray → Option Value) (n : Nat) (ev : Array Value) (lim : Nat) (cn : Option Nat) (L : List (Nat × Obj)) (Z : World) : Prop where
  sp : PsAt w0 Z b ka kl kc x mo me ov Q M n
  tc : Tch StI w0.heap.size w1 Z
  re : RowIs Z w1.heap.size ev 34
  lm : lim ≤ Z.heap.size ∧ w1.heap.size < lim ∧ b < w1.heap.size
  qs : ∀ i (h : i < Q.length), Q[i].sb < lim ∧ Q[i].en < lim ∧ Q[i].ev < lim
  ol : ∀ g, ov.ownBlock = some g → g < lim
  ml : mo < lim ∧ me < lim
  mc : ∀ v c, M v = some (.chan (some c)) → c < lim ∨ cn = some c
  cz : ∀ c, cn = some c → c < Z.heap.size
  rows : ∀ y ∈ L, Z.heap[y.1]? = some y.2 ∧ lim ≤ y.1 ∧ cn ≠ some y.1
section
variable {w0 w1 : World} {b : Nat} {ka : Option Addr} {kl kc : Nat} {x : SsT} {mo me : Nat} {ov : Value} {Q : List BlT} {M : ByteArray → Option Value} {n : Nat} {ev : Array Value} {lim : Nat} {cn : Option Nat} {L : List (Nat × Obj)} {Z : World}
theorem PgE.start (h : PsAt w0 Z b ka kl kc x mo me ov Q M n) (tc : Tch StI w0.heap.size w1 Z) (re : RowIs Z w1.heap.size ev 34) (hb : b < w1.heap.size) : PgE w0 w1 b ka kl kc x mo me ov Q M n ev Z.heap.size none [] Z :=
  ⟨h, tc, re, ⟨Nat.le_refl _, re.lt, hb⟩, fun i hi => ⟨(h.ses i hi (h.okQ hi)).lt, (h.che i hi).lt, (h.chv i hi).lt⟩, fun g hg => (h.own.lt g hg).2, ⟨h.idm.lt, h.evm.lt⟩, fun v c hv => by
    obtain ⟨c2, a1, a2, _, _⟩ := h.m1 v _ hv
    cases a1
    exact .inl a2.lt, (fun c hc => by cases hc), (fun y hy => by cases hy)⟩
theorem PgE.keep {Z' : World} (h : PgE w0 w1 b ka kl kc x mo me ov Q M n ev lim cn L Z) (hb : Below Z.heap.size Z Z') : PgE w0 w1 b ka kl kc x mo me ov Q M n ev lim cn L Z' :=
  ⟨h.sp.keep hb, h.tc.trans (h.sp.tch hb), h.re.keep hb, ⟨Nat.le_trans h.lm.1 hb.size, h.lm.2⟩, h.qs, h.ol, h.ml, h.mc, fun c hc => Nat.lt_of_lt_of_le (h.cz c hc) hb.size, fun y hy => ⟨by rw [hb.block y.1 (Array.getElem?_eq_some_iff.1 (h.rows y hy).1).1]; exact (h.rows y hy).1, (h.rows y hy).2⟩⟩
theorem PgE.dr (h : PgE w0 w1 b ka kl kc x mo me ov Q M n ev lim cn L Z) : PgE w0 w1 b ka kl kc x mo me ov Q M n ev lim cn L Z.drew := h.keep (Below.refl _ _).drew
theorem PgE.alO (h : PgE w0 w1 b ka kl kc x mo me ov Q M n ev lim cn L Z) (o : Obj) (k : Nat) (hk : k = Z.heap.size) : PgE w0 w1 b ka kl kc x mo me ov Q M n ev lim cn ((k, o) :: L) (Z.alloc o) := by
  subst hk
  have q := h.keep (bAl (Below.refl _ _) o)
  refine ⟨q.sp, q.tc, q.re, q.lm, q.qs, q.ol, q.ml, q.mc, q.cz, fun y hy => ?_⟩
  rcases List.mem_cons.1 hy with rfl | hy
  · exact ⟨heap_alloc_new _ _, h.lm.1, fun e => by have := h.cz _ e; omega⟩
  · exact q.rows y hy
theorem ev_ev (h : PgE w0 w1 b ka kl kc x mo me ov Q M n ev lim none L Z) (hn : n ≤ 999) (u : ByteArray) (hu : u.size ≤ maxLen) :
    Calls Tryd.prog 66 #[.pointer (some ⟨b, 0, none⟩), .string u] Z fun e w' => ∃ c M' n', e = .returned (.chan (some c)) ∧ n' ≤ n + 1 ∧ M' u = some (.chan (some c)) ∧ PgE w0 w1 b ka kl kc x mo me ov Q M' n' ev lim (some c) L w' := by
  refine (everywhereOf_low b mo me n ka kl kc x ov M u Z h.sp.box h.sp.evm (by omega) hu (fun v hv => by obtain ⟨c, a1, _⟩ := h.sp.m1 u v hv; exact ⟨c, a1⟩)).mono ?_
  rintro e w' ⟨c, rfl, hE⟩
  obtain ⟨M', n', hn', hp, hu', hc, hall, hb⟩ := h.sp.every hE
  have hm := h.sp.evm.is
  obtain ⟨es, cl, em⟩ := hm
  have bz := h.sp.box.lt
  have lb := h.sp.lom
  have tc := Tch.but3 (b := w0.heap.size) hb (by omega) (by omega) ⟨es, cl, em⟩
  have nSE : ¬ StI 34 := by unfold StI; decide
  refine ⟨c, M', n', rfl, hn', hu', hp, h.tc.trans tc, tc.row h.re nSE, ⟨Nat.le_trans h.lm.1 hb.size, h.lm.2⟩, h.qs, h.ol, h.ml, fun v c' hv => ?_, fun c' hc' => ?_, fun y hy => ?_⟩
  · rcases hall v c' hv with q | ⟨v', q⟩
    · exact .inr (by rw [q])
    · rcases h.mc v' c' q with q2 | q2
      · exact .inl q2
      · cases q2
  · cases hc'
    obtain ⟨c2, a1, a2, _, _⟩ := hp.m1 u _ hu'
    cases a1
    exact a2.lt
  · obtain ⟨y1, y2, y3⟩ := h.rows y hy
    have yl := (Array.getElem?_eq_some_iff.1 y1).1
    have ym := h.ml.2
    refine ⟨by rw [hb.block y.1 yl (by omega) (by omega) (by omega)]; exact y1, y2, fun e => ?_⟩
    have e2 := Option.some.inj e
    rcases hc with ⟨u', q⟩ | q
    · rcases h.mc u' c q with q2 | q2
      · omega
      · cases q2
    · omega
end
end Go.Proofs.YtppkgcedkdeccaaDoor
/- Sessions: the program's state with a session more. -/
namespace Go.Proofs.YtppkgcedkdeccaaDoor
set_option linter.unusedSimpArgs false
set_option linter.unusedVariables false
set_option maxRecDepth 20000
open Go.RowKit Go.Maps


section
variable {w0 w w' : World} {b : Nat} {ka : Option Addr} {kl kc : Nat} {x : SsT} {mo me : Nat} {ov ov' : Value} {Q : List BlT} {M : ByteArray → Option Value} {n : Nat}
/-- Out of what lies there: session s in the blocks of q, its Id the newest. -/
theorem PsAt.snoc (h : PsAt w0 w b ka kl kc x mo me ov Q M n) (s : SxT) (q : BlT) (I : ByteArray) (hs : s.ids = [I]) (hd : s.dead = false) (hq : q.ce = false ∧ q.cd = false)
    (hM : M s.user = some (.chan (some q.ev))) (sbn : q.sb ≠ b ∧ b < q.sb ∧ (∀ i (hi : i < Q.length), Q[i].sb ≠ q.sb)) (enn : b < q.en ∧ (∀ i (hi : i < Q.length), Q[i].en ≠ q.en ∧ Q[i].ev ≠ q.en) ∧ q.en ≠ q.ev ∧ ∀ v c, M v = some (.chan (some c)) → q.en ≠ c)
    (hbox : RowIs w' b (vC ka kl kc { x with given := x.given + 1 } mo me ov') 69) (hses : RowIs w' q.sb (sC s q) 103) (hen : ChanAt w' q.en false)
    (hid : KM Tryd.prog 9 Value.string w' mo (x.given + 1) (updK (idMap x Q) I (.pointer (some ⟨q.sb, 0, none⟩)))) (hown : w'.ownsRow (b + 1) 70 1 ov' (Q.length + 1) (ptrV Q ++ [.pointer (some ⟨q.sb, 0, none⟩)]))
    (hk : ∀ g o, w.heap[g]? = some o → g ≠ b → g ≠ mo → g ≠ q.sb → ov.ownBlock ≠ some g → w'.heap[g]? = some o) (ho9 : ov.ownBlock ≠ some q.sb) (hbel : Below w0.heap.size w0 w') (hsb : ∃ C, RowIs w q.sb C 103) :
    PsAt w0 w' b ka kl kc { x with given := x.given + 1, list := x.list ++ [s] } mo me ov' (Q ++ [q]) M n := by
  obtain ⟨CS, hCS⟩ := hsb
  have ovr : ∀ g C T, w.heap[g]? = some (Obj.cells C T (0, 0)) → T ≠ 70 → ov.ownBlock ≠ some g := fun g C T hg hT e => by
    obtain ⟨C', hC'⟩ := own_is h.own e
    rw [hC'] at hg
    cases hg
    exact hT rfl
  have ovc : ∀ g, ov.ownBlock = some g → ∃ C, w.heap[g]? = some (Obj.cells C 70 (0, 0)) := fun g e => own_is h.own e
  have row : ∀ {g : Nat} {C : Array Value}, g ≠ b → g ≠ q.sb → RowIs w g C 103 → RowIs w' g C 103 := fun {g C} h1 h2 hr => by
    have hm := h.idm.is
    obtain ⟨es, cl, em⟩ := hm
    unfold RowIs at *
    exact hk g _ hr h1 (by rintro rfl; rw [em] at hr; cases hr) h2 (ovr g C _ hr (by decide))
  have rb := h.box
  have ch : ∀ {k : Nat} {c : Bool}, ChanAt w k c → ChanAt w' k c := fun {k c} hc => by
    obtain ⟨s1, r1, e⟩ := hc
    refine ⟨s1, r1, hk k _ e ?_ ?_ ?_ ?_⟩
    · rintro rfl; unfold RowIs at rb; rw [rb] at e; cases e
    · obtain ⟨es, cl, em⟩ := h.idm.is
      rintro rfl; rw [em] at e; cases e
    · rintro rfl; unfold RowIs at hCS; rw [hCS] at e; cases e
    · intro e2
      obtain ⟨C, hC⟩ := ovc k e2
      rw [hC] at e; cases e
  have km : KM Tryd.prog 9 Value.string w' me n M := by
    obtain ⟨es, cl, em⟩ := h.evm.is
    refine h.evm.block ((hk me _ em ?_ ?_ ?_ ?_).trans em.symm)
    · have := h.lom; omega
    · have := h.lom; omega
    · rintro rfl; unfold RowIs at hCS; rw [hCS] at em; cases em
    · intro e2
      obtain ⟨C, hC⟩ := ovc me e2
      rw [hC] at em; cases em
  have fl : (idsL x.list).length = Q.length := by unfold idsL; rw [h.len]; simp
  have il : idsL (x.list ++ [s]) = idsL x.list ++ [[I]] := by unfold idsL; simp [hs]
  have im : updK (idMap x Q) I (.pointer (some ⟨q.sb, 0, none⟩)) = idMap { x with given := x.given + 1, list := x.list ++ [s] } (Q ++ [q]) := by
    funext y
    unfold updK idMap
    rw [il, findI_snoc]
    by_cases e : y = I
    · rw [if_pos e, if_pos e, fl]
      simp [List.getD_eq_getElem?_getD]
    · rw [if_neg e, if_neg e]
      cases e2 : findI (idsL x.list) y with
      | none => rfl
      | some j =>
        have hj : j < Q.length := by rw [← fl]; exact (findK_some e2).1
        simp [List.getD_eq_getElem?_getD, List.getElem?_append_left hj]
  obtain ⟨c0, cc, c1, c2, c3⟩ := h.m1 _ _ hM
  cases cc
  have gx : ∀ i (hi : i < Q.length) (h1 : i < (Q ++ [q]).length) (h2 : i < (x.list ++ [s]).length), (Q ++ [q])[i] = Q[i] ∧ (x.list ++ [s])[i] = x.list[i]'(h.okQ hi) := fun i hi h1 h2 => ⟨List.getElem_append_left hi, List.getElem_append_left (h.okQ hi)⟩
  have gq : ∀ i (hi : i < Q.length) (h1 : i < (Q ++ [q]).length), (Q ++ [q])[i] = Q[i] := fun i hi h1 => List.getElem_append_left hi
  have gl : ∀ (h1 : Q.length < (Q ++ [q]).length), (Q ++ [q])[Q.length] = q := fun h1 => by rw [List.getElem_append_right (Nat.le_refl _)]; simp
  have gs : ∀ (h1 : Q.length < (x.list ++ [s]).length), (x.list ++ [s])[Q.length] = s := fun h1 => by
    rw [List.getElem_append_right (by rw [h.len]; exact Nat.le_refl _)]
    simp [h.len]
  have sp : ∀ i, i < (Q ++ [q]).length → i < Q.length ∨ i = Q.length := fun i hi => by simp at hi; omega
  refine ⟨hbox, by simp [h.len], fun i hi hi' => ?_, fun i hi => ?_, fun i hi => ?_, fun i hi hi' => ?_, fun i j hi hj hn => ?_, fun i j hi hj hn => ?_, fun i j hi hj => ?_, by rw [← im]; exact hid, km, fun u v hv => ?_, fun i hi hi' => ?_, h.m3, by rw [show ptrV (Q ++ [q]) = ptrV Q ++ [.pointer (some ⟨q.sb, 0, none⟩)] by simp [ptrV], List.length_append]; exact hown, fun i hi => ?_, h.lom, hbel, h.lo⟩
  · rcases sp i hi with e | e
    · obtain ⟨a1, a2⟩ := gx i e hi hi'
      show RowIs w' ((Q ++ [q])[i]).sb (sC ((x.list ++ [s])[i]) ((Q ++ [q])[i])) _
      rw [a1, a2]
      exact row (by have := (h.lows i e).1; omega) (sbn.2.2 i e) (h.ses i e (h.okQ e))
    · subst e
      show RowIs w' ((Q ++ [q])[Q.length]).sb (sC ((x.list ++ [s])[Q.length]) ((Q ++ [q])[Q.length])) _
      rw [gl hi, gs hi']
      exact hses
  · rcases sp i hi with e | e
    · rw [gq i e hi]; exact ch (h.che i e)
    · subst e; rw [gl hi, hq.1]; exact hen
  · rcases sp i hi with e | e
    · rw [gq i e hi]; exact ch (h.chv i e)
    · subst e; rw [gl hi, hq.2]; exact ch c1
  · rcases sp i hi with e | e
    · obtain ⟨a1, a2⟩ := gx i e hi hi'
      show ((x.list ++ [s])[i]).dead = _
      rw [a1, a2]
      exact h.dd i e (h.okQ e)
    · subst e
      show ((x.list ++ [s])[Q.length]).dead = _
      rw [gl hi, gs hi', hd, hq.1, hq.2]
      rfl
  · rcases sp i hi with e | e <;> rcases sp j hj with e2 | e2
    · rw [gq i e hi, gq j e2 hj]; exact h.sbA i j e e2 hn
    · subst e2; rw [gq i e hi, gl hj]; exact sbn.2.2 i e
    · subst e; rw [gl hi, gq j e2 hj]; exact (sbn.2.2 j e2).symm
    · omega
  · rcases sp i hi with e | e <;> rcases sp j hj with e2 | e2
    · rw [gq i e hi, gq j e2 hj]; exact h.enA i j e e2 hn
    · subst e2; rw [gq i e hi, gl hj]; exact (enn.2.1 i e).1
    · subst e; rw [gl hi, gq j e2 hj]; exact (enn.2.1 j e2).1.symm
    · omega
  · rcases sp i hi with e | e <;> rcases sp j hj with e2 | e2
    · rw [gq i e hi, gq j e2 hj]; exact h.nv i j e e2
    · subst e2; rw [gq i e hi, gl hj]; exact c3 i e
    · subst e; rw [gl hi, gq j e2 hj]; exact (enn.2.1 j e2).2.symm
    · subst e; subst e2; rw [gl hi]; exact enn.2.2.1
  · obtain ⟨c, a1, a2, a3, a4⟩ := h.m1 u v hv
    refine ⟨c, a1, ch a2, a3, fun i hi => ?_⟩
    rcases sp i hi with e | e
    · rw [gq i e hi]; exact a4 i e
    · subst e; rw [gl hi]
      subst a1
      exact enn.2.2.2 u c hv
  · rcases sp i hi with e | e
    · obtain ⟨a1, a2⟩ := gx i e hi hi'
      show ((Q ++ [q])[i]).cd = true ∨ M ((x.list ++ [s])[i]).user = some (.chan (some ((Q ++ [q])[i]).ev))
      rw [a1, a2]
      exact h.m2 i e (h.okQ e)
    · subst e
      show ((Q ++ [q])[Q.length]).cd = true ∨ M ((x.list ++ [s])[Q.length]).user = some (.chan (some ((Q ++ [q])[Q.length]).ev))
      rw [gl hi, gs hi']
      exact .inr hM
  · rcases sp i hi with e | e
    · rw [gq i e hi]; exact h.lows i e
    · subst e; rw [gl hi]; exact ⟨sbn.2.1, enn.1, c2⟩
end
end Go.Proofs.YtppkgcedkdeccaaDoor
/- Sessions: a login, by the program. -/
namespace Go.Proofs.YtppkgcedkdeccaaDoor
set_option linter.unusedSimpArgs false
set_option linter.unusedVariables false
set_option maxRecDepth 20000
open Go.RowKit Go.Maps


theorem But3.below {p q r B : Nat} {w w' : World} (h : But3 p q r w w') (hp : B ≤ p) (hq : B ≤ q) (hr : B ≤ r) (hw : B ≤ w.heap.size) : Below B w w' := ⟨h.os, h.tape, h.output, h.size, fun g hg => h.block g (by omega) (by omega) (by omega) (by omega)⟩
theorem info_ps : (Tryd.prog.info? 70).map (fun i => (i.zero, i.size, i.bytes)) = some (some (.pointer none), 1, 8) := by kernel_rfl
theorem PgE.cc {w0 w1 : World} {b : Nat} {ka : Option Addr} {kl kc : Nat} {x : SsT} {mo me : Nat} {ov : Value} {Q : List BlT} {M : ByteArray → Option Value} {n : Nat} {k t : Int} {u d i : ByteArray} {lim : Nat} {cn : Option Nat} {L : List (Nat × Obj)} {Z : World} (h : PgE w0 w1 b ka kl kc x mo me ov Q M n #[.int .i64 k, .int .i64 t, .string u, .string d, .string i] lim cn L Z) :
    (Z.cell? ⟨w1.heap.size, 2, none⟩ = some (.string u) ∧ Z.cell? ⟨w1.heap.size, 3, none⟩ = some (.string d)) ∧ Z.cell? ⟨b, 3, none⟩ = some (.int .i64 x.now) :=
  ⟨⟨h.re.at rfl, h.re.at rfl⟩, h.sp.box.at rfl⟩
theorem mults_of {w0 w' : World} (h : D.Mults w0) (hb : Below w0.heap.size w0 w') : D.Mults w' := h.keepB hb h.1
theorem tab_of {w0 w' : World} (h : Tab w0) (hb : Below w0.heap.size w0 w') : Tab w' := h.keep hb
def sNew (x : SsT) (u d : ByteArray) : SxT := ⟨[idOf x.key (x.given + 1)], u, d, 1, x.now, x.now, false⟩
def NewSV (sb en c : Nat) (u d : ByteArray) (now : Int) (i : ByteArray) : Array Value := #[.string i, .string u, .string d, .int .i64 1, .int .i64 now, .int .i64 now, .chan (some en), .chan (some c)]
theorem login_end {w0 w wx w6 w8 : World} {b : Nat} {ka : Option Addr} {kl kc : Nat} {x : SsT} {mo me : Nat} {ov ov' : Value} {Q : List BlT} {M : ByteArray → Option Value} {n : Nat} {ev : Array Value} {lim sb en c : Nat} {u d : ByteArray} {o : Obj}
    (E : PgE w0 w b ka kl kc x mo me ov Q M n ev lim (some c) [(sb, Obj.cells (NewSV sb en c u d x.now ⟨#[]⟩) 103 (0, 0)), (en, Obj.chan 0 #[] false 0 0 false)] wx) (hse : sb ≠ en) (hu : M u = some (.chan (some c)))
    (hb6 : RowIs w6 b (vC ka kl kc { x with given := x.given + 1 } mo me ov) 69) (hs6 : RowIs w6 sb (NewSV sb en c u d x.now (idOf x.key (x.given + 1))) 103) (hm6 : KM Tryd.prog 9 Value.string w6 mo (x.given + 1) (updK (idMap x Q) (idOf x.key (x.given + 1)) (.pointer (some ⟨sb, 0, none⟩)))) (hB : But3 b sb mo wx w6)
    (hown : w8.ownsRow (b + 1) 70 1 ov' (Q.length + 1) (ptrV Q ++ [.pointer (some ⟨sb, 0, none⟩)])) (hg : (w6.alloc o).grownBy w8 ov.ownBlock) :
    PsAt w0 (w8.setCell ⟨b, 7, none⟩ ov') b ka kl kc { x with given := x.given + 1, list := x.list ++ [sNew x u d] } mo me ov' (Q ++ [⟨sb, en, c, false, false⟩]) M n ∧ Tch StI w0.heap.size w (w8.setCell ⟨b, 7, none⟩ ov') := by
  obtain ⟨(ys : wx.heap[sb]? = some (Obj.cells (NewSV sb en c u d x.now ⟨#[]⟩) 103 (0, 0))), (ls : lim ≤ sb), (cs : some c ≠ some sb)⟩ := E.rows (sb, _) (List.mem_cons_self ..)
  obtain ⟨(ye : wx.heap[en]? = some (Obj.chan 0 #[] false 0 0 false)), (le : lim ≤ en), (ce : some c ≠ some en)⟩ := E.rows (en, _) (List.mem_cons_of_mem _ (List.mem_cons_self ..))
  have lm := E.lm
  have lom := E.sp.lom
  have ml := E.ml
  have bz := E.sp.box.lt
  have zs := (Array.getElem?_eq_some_iff.1 ys).1
  have ze := (Array.getElem?_eq_some_iff.1 ye).1
  have low := E.sp.own.lt
  have oB : ∀ g, ov.ownBlock = some g → b + 1 ≤ g ∧ g < lim ∧ g ≠ mo := fun g hg2 => by
    obtain ⟨C, hC⟩ := own_is E.sp.own hg2
    obtain ⟨es, cl, em⟩ := E.sp.idm.is
    exact ⟨(low g hg2).1, E.ol g hg2, by rintro rfl; rw [em] at hC; cases hC⟩
  have k8 : ∀ g, g < wx.heap.size → ov.ownBlock ≠ some g → w8.heap[g]? = w6.heap[g]? := fun g gl h4 =>
    (hg.block g (by have := hB.size; simp [World.size_alloc]; omega) (fun e => h4 e.symm)).trans ((bAl (Below.refl _ _) o).block g (Nat.lt_of_lt_of_le gl hB.size))
  have ne : ∀ g, g ≠ b → (w8.setCell ⟨b, 7, none⟩ ov').heap[g]? = w8.heap[g]? := fun g hg2 => heap_setCell_other w8 ⟨b, 7, none⟩ g ov' hg2
  have fr : ∀ g o', wx.heap[g]? = some o' → g ≠ b → g ≠ mo → g ≠ sb → ov.ownBlock ≠ some g → (w8.setCell ⟨b, 7, none⟩ ov').heap[g]? = some o' := fun g o' h0 h1 h2 h3 h4 => by
    have gl := (Array.getElem?_eq_some_iff.1 h0).1
    rw [ne g h1, k8 g gl h4, hB.block g gl h1 h3 h2]
    exact h0
  have nb : ov.ownBlock ≠ some b := fun e => by have := oB b e; omega
  have ns : ov.ownBlock ≠ some sb := fun e => by have := oB sb e; omega
  have nm : ov.ownBlock ≠ some mo := fun e => (oB mo e).2.2 rfl
  have lo := E.sp.lo
  have B8 : Below w0.heap.size wx w8 := ⟨hg.os.trans hB.os, hg.tape.trans hB.tape, hg.output.trans hB.output, Nat.le_trans hB.size (Nat.le_trans (by simp [World.size_alloc]) hg.size), fun g gl => by
    have gz : g < wx.heap.size := by omega
    rw [k8 g gz (fun e => by have := oB g e; omega)]
    exact hB.block g gz (by omega) (by omega) (by omega)⟩
  have B9 : Below w0.heap.size wx (w8.setCell ⟨b, 7, none⟩ ov') := B8.setCell lo _
  have rb8 : RowIs w8 b (vC ka kl kc { x with given := x.given + 1 } mo me ov) 69 := by
    unfold RowIs at *
    rw [k8 b bz nb]; exact hb6
  have rs8 : RowIs w8 sb (NewSV sb en c u d x.now (idOf x.key (x.given + 1))) 103 := by
    unfold RowIs at *
    rw [k8 sb zs ns]; exact hs6
  refine ⟨?_, ?_⟩
  · refine E.sp.snoc (sNew x u d) ⟨sb, en, c, false, false⟩ (idOf x.key (x.given + 1)) rfl rfl ⟨rfl, rfl⟩ hu ⟨(by omega : sb ≠ b), (by omega : b < sb), fun i hi => ?_⟩ ⟨(by omega : b < en), fun i hi => ?_, fun e => ce (by rw [show en = c from e]), fun v c' hv e => ?_⟩ (rb8.set 7 ov') (rs8.setOther _ (by show sb ≠ b; omega)) ?_ ?_ ?_ (fun g o' h0 h1 h2 h3 h4 => fr g o' h0 h1 h2 h3 h4) ns ?_ ⟨_, ys⟩
    · have := E.qs i hi; show Q[i].sb ≠ sb; omega
    · have := E.qs i hi; show Q[i].en ≠ en ∧ Q[i].ev ≠ en; omega
    · rcases E.mc v c' hv with q | q
      · have e2 : en = c' := e
        omega
      · exact ce (by rw [show en = c' from e]; exact q)
    · exact ⟨_, _, fr en _ ye (by omega) (by omega) (Ne.symm hse) (fun e => by have := oB en e; omega)⟩
    · exact (hm6.block (k8 mo (by omega) nm)).block (ne mo (by omega))
    · exact own_blk hown (fun g hg2 => ne g (by have := (hown.lt g hg2).1; omega))
    · have := E.sp.lo
      have q := E.sp.bel
      exact ⟨B9.os.trans q.os, B9.tape.trans q.tape, B9.output.trans q.output, Nat.le_trans q.size B9.size, fun g gl => (B9.block g (by omega)).trans (q.block g gl)⟩
  · refine E.tc.trans ⟨B9, fun g C T f h0 hn => ?_⟩
    have tb := E.sp.box
    obtain ⟨es, cl, em⟩ := E.sp.idm.is
    refine fr g _ h0 ?_ ?_ ?_ ?_
    · rintro rfl; unfold RowIs at tb; rw [tb] at h0; cases h0; exact hn (.inl rfl)
    · rintro rfl; rw [em] at h0; cases h0
    · rintro rfl; rw [ys] at h0; cases h0; exact hn (.inr (.inl rfl))
    · intro e
      obtain ⟨C2, hC2⟩ := own_is E.sp.own e
      rw [hC2] at h0; cases h0; exact hn (.inr (.inr rfl))
theorem own_slice {w : World} {base e size n : Nat} {v : Value} {xs : List Value} (h : w.ownsRow base e size v n xs) : ∃ a c, v = .slice a n c := by
  obtain ⟨_, ⟨rfl, rfl⟩ | ⟨g, cap, cur, rfl, _⟩⟩ := h
  · exact ⟨_, _, rfl⟩
  · exact ⟨_, _, rfl⟩
theorem gid_of {w0 w wx : World} {b : Nat} {ka : Option Addr} {kl kc : Nat} {x : SsT} {mo me : Nat} {ov : Value} {Q : List BlT} {M : ByteArray → Option Value} {n : Nat} {ev : Array Value} {lim sb en c : Nat} {u d : ByteArray}
    (E : PgE w0 w b ka kl kc x mo me ov Q M n ev lim (some c) [(sb, Obj.cells (NewSV sb en c u d x.now ⟨#[]⟩) 103 (0, 0)), (en, Obj.chan 0 #[] false 0 0 false)] wx) (hse : sb ≠ en) (hQ : Q.length ≤ 990) (hg : x.given ≤ 990) (hK : D.SlB w0 w0.heap.size ka kl x.key) (hkl : kl ≤ 64) (hM : D.Mults w0) (hT : Tab w0) :
    Calls Tryd.prog 67 #[.pointer (some ⟨b, 0, none⟩), .pointer (some ⟨sb, 0, none⟩)] wx fun e w' => e = .returned (.tuple #[]) ∧ RowIs w' b (vC ka kl kc { x with given := x.given + 1 } mo me ov) 69 ∧ RowIs w' sb (NewSV sb en c u d x.now (idOf x.key (x.given + 1))) 103 ∧ KM Tryd.prog 9 Value.string w' mo (x.given + 1) (updK (idMap x Q) (idOf x.key (x.given + 1)) (.pointer (some ⟨sb, 0, none⟩))) ∧ But3 b sb mo wx w' ∧ w'.ownsRow (b + 1) 70 1 ov Q.length (ptrV Q) := by
  obtain ⟨(ys : wx.heap[sb]? = some (Obj.cells (NewSV sb en c u d x.now ⟨#[]⟩) 103 (0, 0))), (ls : lim ≤ sb), (cs : some c ≠ some sb)⟩ := E.rows (sb, _) (List.mem_cons_self ..)
  have lm := E.lm
  have lom := E.sp.lom
  have ml := E.ml
  have lo := E.sp.lo
  have bz := E.sp.box.lt
  have zs := (Array.getElem?_eq_some_iff.1 ys).1
  have bl : ∀ w', But3 b sb mo wx w' → Below w0.heap.size w0 w' := fun w' hB => E.sp.bel.trans (hB.below lo (by omega) (by omega) (Nat.le_trans lo (Nat.le_of_lt bz)))
  refine (giveId_low b sb mo me x.given ka kl kc x ov ⟨#[]⟩ (.string u) (.string d) (.int .i64 1) (.int .i64 x.now) (.int .i64 x.now) (.chan (some en)) (.chan (some c)) (idMap x Q) wx E.sp.box ys (by omega) E.sp.idm (by omega) ⟨by omega, by omega⟩ ((hK.keepB E.sp.bel).mono lo) hkl (by omega) (fun w' hB => mults_of hM (bl w' hB)) (fun w' hB => tab_of hT (bl w' hB))).mono ?_
  rintro e w' ⟨a1, a2, a3, a4, a5⟩
  refine ⟨a1, a2, a3, a4, a5, own_blk E.sp.own (fun g hg2 => ?_)⟩
  obtain ⟨C, hC⟩ := own_is E.sp.own hg2
  obtain ⟨es, cl, em⟩ := E.sp.idm.is
  have := E.ol g hg2
  have q := E.sp.own.lt g hg2
  exact a5.block g q.2 (by omega) (by omega) (by rintro rfl; rw [em] at hC; cases hC)
set_option maxHeartbeats 8000000 in
theorem login_any {w0 w : World} {b : Nat} {ka : Option Addr} {kl kc : Nat} {x : SsT} {mo me : Nat} {ov : Value} {Q : List BlT} {M : ByteArray → Option Value} {n : Nat} (h : PsAt w0 w b ka kl kc x mo me ov Q M n) (hn : n ≤ x.given) (hg : x.given ≤ 990) (hQ : Q.length ≤ 990) (k t : Int) (u d i : ByteArray) (hu : u.size ≤ maxLen) (hK : D.SlB w0 w0.heap.size ka kl x.key) (hkl : kl ≤ 64) (hM : D.Mults w0) (hT : Tab w0) :
    Calls Tryd.prog 58 #[.pointer (some ⟨b, 0, none⟩), .agg #[.int .i64 k, .int .i64 t, .string u, .string d, .string i]] w fun e w' => ∃ ov' q M' n', e = .returned (.pointer (some ⟨q.sb, 0, none⟩)) ∧ n' ≤ x.given + 1 ∧ PsAt w0 w' b ka kl kc { x with given := x.given + 1, list := x.list ++ [sNew x u d] } mo me ov' (Q ++ [q]) M' n' ∧ Tch StI w0.heap.size w w' := by
  have hbz := h.box.lt
  obtain ⟨W1, hW1⟩ : ∃ W, W = w.alloc (.cells #[.int .i64 k, .int .i64 t, .string u, .string d, .string i] 34) := ⟨_, rfl⟩
  have b1 : Below w.heap.size w W1 := by rw [hW1]; exact bAl (Below.refl _ _) _
  have E0 := hide (show PgE w0 w b ka kl kc x mo me ov Q M n #[.int .i64 k, .int .i64 t, .string u, .string d, .string i] W1.heap.size none [] W1 from PgE.start (h.keep b1) (h.tch b1) (by rw [hW1]; exact RowIs.new _ _ _) hbz)
  have HW1 := hide hW1.symm
  clear hW1 b1
  have qev := hide (fun (L : List (Nat × Obj)) (Z : World) (E : PgE w0 w b ka kl kc x mo me ov Q M n #[.int .i64 k, .int .i64 t, .string u, .string d, .string i] W1.heap.size none L Z) => ev_ev E (by omega) u hu)
  obtain ⟨N0, hN0⟩ : ∃ q, q = x.now := ⟨_, rfl⟩
  have hmk := mkCh
  go_enter Tryd.func58, Tryd.ntmps58
  go_upto_region 1 with fail
  refine wp_world (unhide HW1) ?_
  clear HW1
  go_cut [5] from 6 (fun sx wx => ∃ (sb en c : Nat) (M' : ByteArray → Option Value) (n' : Nat), sx = .pointer (some ⟨sb, 0, none⟩) ∧ n' ≤ n + 1 ∧ M' u = some (.chan (some c)) ∧ sb ≠ en ∧ Hid (PgE w0 w b ka kl kc x mo me ov Q M' n' #[.int .i64 k, .int .i64 t, .string u, .string d, .string i] W1.heap.size (some c) [(sb, Obj.cells #[.string ⟨#[]⟩, .string u, .string d, .int .i64 1, .int .i64 x.now, .int .i64 x.now, .chan (some en), .chan (some c)] 103), (en, Obj.chan 0 #[] false 0 0 false)] wx))
  case first =>
    have E1 := hide (unhide E0).dr
    go_region_held3 (fun Z => (Z.cell? ⟨w.heap.size, 2, none⟩ = some (.string u) ∧ Z.cell? ⟨w.heap.size, 3, none⟩ = some (.string d)) ∧ Z.cell? ⟨b, 3, none⟩ = some (.int .i64 x.now))
      (first
        | with_reducible exact PgE.cc (unhide E1)
        | with_reducible exact PgE.cc (((unhide E0).alO _ _ rfl).dr)
        | with_reducible exact PgE.cc (unhide E2)
        | with_reducible exact PgE.cc ((unhide E2).alO _ _ rfl)
        | with_reducible exact PgE.cc (((unhide E2).alO _ _ rfl).alO _ _ rfl))
      (first
        | (go_at_call 66; (first | with_reducible refine (unhide qev _ _ (unhide E1)).mono ?_ | with_reducible refine (unhide qev _ _ (((unhide E0).alO _ _ rfl).dr)).mono ?_); rintro e w6 ⟨c, M', n', rfl, hn6, hu6, hE⟩; have E2 := hide hE; have HN6 := hide hn6; have HU6 := hide hu6; clear hE hn6 hu6))
    all_goals
      iterate 40 (try clear hHeld)
      (try go_wp2_with fail)
      go_meet
      case rel =>
        first
          | with_reducible refine ⟨_, _, _, _, _, rfl, unhide HN6, unhide HU6, ?_, hide ((unhide E2).alO _ _ rfl)⟩
          | refine ⟨_, _, _, _, _, rfl, unhide HN6, unhide HU6, ?_, hide (((unhide E2).alO _ _ rfl).alO _ _ (by simp [World.size_alloc]))⟩
        first
          | exact Nat.ne_of_gt (Array.getElem?_eq_some_iff.1 ((unhide E2).rows _ (List.mem_cons_self ..)).1).1
          | omega
  clear E0 qev hmk
  obtain ⟨sb, en, c, M', n', rfl, hn', hu', hse, hE0⟩ := hcut
  have gid := hide (gid_of (unhide hE0) hse hQ hg hK hkl hM hT)
  have HE := hide (unhide hE0)
  clear hK hM hT hE0 h
  obtain ⟨i0, hi, hz0, hz1, hz2⟩ := info_parts info_ps
  go_wp2_with fail
  refine (unhide gid).mono ?_
  rintro e w6 ⟨rfl, hb6, hs6, hm6, hB, hown6⟩
  have B6 := hide hb6
  have S6 := hide hs6
  have M6 := hide hm6
  have D6 := hide hB
  have O6 := hide hown6
  have c7 := hb6.at (o := 7) (v := ov) rfl
  have f7 := hb6.froz 7
  have z7 := hb6.lt
  have OB := hide (show ∀ g, ov.ownBlock = some g → b + 1 ≤ g from fun g e => (hown6.lt g e).1)
  clear hs6 hm6 hB hown6 hb6
  go_wp2_with (at_builtin; refine wpList_append_own _ rfl _ _ 67 rfl (b + 1) 70 i0 (.pointer none) 1 8 Tryd.underlying67 hi hz0 hz1 hz2 rfl (by decide) _ _ _ rfl ((unhide O6).alloc _) ⟨_, 0, none⟩ 1 1 [.pointer (some ⟨sb, 0, none⟩)] rfl rfl (cell_one_new _ _ _) (fun x hx => by simp at hx; subst hx; rfl) (by unfold maxLen; omega) (by omega) (by simp; omega) ?_; intro v8 w8 hown8 hgrow8 _; obtain ⟨va, vc, rfl⟩ := own_slice hown8; have B8 := hide (row_grown ((unhide B6).keep (bAl (Below.refl _ _) _)) hgrow8 (fun e => by have := unhide OB b e.symm; omega)); have b7 := (unhide B8).at (o := 7) (v := ov) rfl; have g7 := (unhide B8).froz 7; have y7 := (unhide B8).lt; have OW := hide hown8; have GR := hide hgrow8; clear hown8 hgrow8)
  go_ret
  refine ⟨.slice va (Q.length + 1) vc, ⟨sb, en, c, false, false⟩, M', n', rfl, by omega, ?_⟩
  exact login_end (unhide HE) hse hu' (unhide B6) (unhide S6) (unhide M6) (unhide D6) (unhide OW) (unhide GR)
end Go.Proofs.YtppkgcedkdeccaaDoor
