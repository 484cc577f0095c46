/- LPh, LPi, LPj, one behind the other. -/
import Derived.Test.YtlbbjkpdionieaaDoorJ26
import Derived.Deep.RegionHeld3
import Derived.Deep.Cut
import Derived.Laws.AppendOwn
import Derived.Maps.OwnSet
import Derived.Conc.EventLaws
/- Sessions: the program's state with a session more. -/
namespace Go.Proofs.YtlbbjkpdionieaaDoor
set_option linter.unusedSimpArgs false
set_option linter.unusedVariables false
set_option maxRecDepth 20000
open Go.RowKit Go.Maps


section
variable {w0 w w' : World} {b : Nat} {ka : Option Addr} {kl kc : Nat} {x : SsT} {mo me : Nat} {ov ov' : Value} {Q : List BlT} {M : ByteArray → Option Value} {n : Nat}
/-- Out of what lies there: session s in the blocks of q, its Id the newest. -/
theorem PsAt.snoc (h : PsAt w0 w b ka kl kc x mo me ov Q M n) (s : SxT) (q : BlT) (I : ByteArray) (hs : s.ids = [I]) (hd : s.dead = false) (hq : q.ce = false ∧ q.cd = false)
    (hM : M s.user = some (.chan (some q.ev))) (sbn : q.sb ≠ b ∧ b < q.sb ∧ (∀ i (hi : i < Q.length), Q[i].sb ≠ q.sb)) (enn : b < q.en ∧ (∀ i (hi : i < Q.length), Q[i].en ≠ q.en ∧ Q[i].ev ≠ q.en) ∧ q.en ≠ q.ev ∧ ∀ v c, M v = some (.chan (some c)) → q.en ≠ c)
    (hbox : RowIs w' b (vC ka kl kc { x with given := x.given + 1 } mo me ov') 82) (hses : RowIs w' q.sb (sC s q) 97) (hen : ChanAt w' q.en false)
    (hid : KM Tryd.prog 9 Value.string w' mo (x.given + 1) (updK (idMap x Q) I (.pointer (some ⟨q.sb, 0, none⟩)))) (hown : w'.ownsRow (b + 1) 84 1 ov' (Q.length + 1) (ptrV Q ++ [.pointer (some ⟨q.sb, 0, none⟩)]))
    (hk : ∀ g o, w.heap[g]? = some o → g ≠ b → g ≠ mo → g ≠ q.sb → ov.ownBlock ≠ some g → w'.heap[g]? = some o) (ho9 : ov.ownBlock ≠ some q.sb) (hbel : Below w0.heap.size w0 w') (hsb : ∃ C, RowIs w q.sb C 97) :
    PsAt w0 w' b ka kl kc { x with given := x.given + 1, list := x.list ++ [s] } mo me ov' (Q ++ [q]) M n := by
  obtain ⟨CS, hCS⟩ := hsb
  have ovr : ∀ g C T, w.heap[g]? = some (Obj.cells C T (0, 0)) → T ≠ 84 → ov.ownBlock ≠ some g := fun g C T hg hT e => by
    obtain ⟨C', hC'⟩ := own_is h.own e
    rw [hC'] at hg
    cases hg
    exact hT rfl
  have ovc : ∀ g, ov.ownBlock = some g → ∃ C, w.heap[g]? = some (Obj.cells C 84 (0, 0)) := fun g e => own_is h.own e
  have row : ∀ {g : Nat} {C : Array Value}, g ≠ b → g ≠ q.sb → RowIs w g C 97 → RowIs w' g C 97 := fun {g C} h1 h2 hr => by
    have hm := h.idm.is
    obtain ⟨es, cl, em⟩ := hm
    unfold RowIs at *
    exact hk g _ hr h1 (by rintro rfl; rw [em] at hr; cases hr) h2 (ovr g C _ hr (by decide))
  have rb := h.box
  have ch : ∀ {k : Nat} {c : Bool}, ChanAt w k c → ChanAt w' k c := fun {k c} hc => by
    obtain ⟨s1, r1, e⟩ := hc
    refine ⟨s1, r1, hk k _ e ?_ ?_ ?_ ?_⟩
    · rintro rfl; unfold RowIs at rb; rw [rb] at e; cases e
    · obtain ⟨es, cl, em⟩ := h.idm.is
      rintro rfl; rw [em] at e; cases e
    · rintro rfl; unfold RowIs at hCS; rw [hCS] at e; cases e
    · intro e2
      obtain ⟨C, hC⟩ := ovc k e2
      rw [hC] at e; cases e
  have km : KM Tryd.prog 9 Value.string w' me n M := by
    obtain ⟨es, cl, em⟩ := h.evm.is
    refine h.evm.block ((hk me _ em ?_ ?_ ?_ ?_).trans em.symm)
    · have := h.lom; omega
    · have := h.lom; omega
    · rintro rfl; unfold RowIs at hCS; rw [hCS] at em; cases em
    · intro e2
      obtain ⟨C, hC⟩ := ovc me e2
      rw [hC] at em; cases em
  have fl : (idsL x.list).length = Q.length := by unfold idsL; rw [h.len]; simp
  have il : idsL (x.list ++ [s]) = idsL x.list ++ [[I]] := by unfold idsL; simp [hs]
  have im : updK (idMap x Q) I (.pointer (some ⟨q.sb, 0, none⟩)) = idMap { x with given := x.given + 1, list := x.list ++ [s] } (Q ++ [q]) := by
    funext y
    unfold updK idMap
    rw [il, findI_snoc]
    by_cases e : y = I
    · rw [if_pos e, if_pos e, fl]
      simp [List.getD_eq_getElem?_getD]
    · rw [if_neg e, if_neg e]
      cases e2 : findI (idsL x.list) y with
      | none => rfl
      | some j =>
        have hj : j < Q.length := by rw [← fl]; exact (findK_some e2).1
        simp [List.getD_eq_getElem?_getD, List.getElem?_append_left hj]
  obtain ⟨c0, cc, c1, c2, c3⟩ := h.m1 _ _ hM
  cases cc
  have gx : ∀ i (hi : i < Q.length) (h1 : i < (Q ++ [q]).length) (h2 : i < (x.list ++ [s]).length), (Q ++ [q])[i] = Q[i] ∧ (x.list ++ [s])[i] = x.list[i]'(h.okQ hi) := fun i hi h1 h2 => ⟨List.getElem_append_left hi, List.getElem_append_left (h.okQ hi)⟩
  have gq : ∀ i (hi : i < Q.length) (h1 : i < (Q ++ [q]).length), (Q ++ [q])[i] = Q[i] := fun i hi h1 => List.getElem_append_left hi
  have gl : ∀ (h1 : Q.length < (Q ++ [q]).length), (Q ++ [q])[Q.length] = q := fun h1 => by rw [List.getElem_append_right (Nat.le_refl _)]; simp
  have gs : ∀ (h1 : Q.length < (x.list ++ [s]).length), (x.list ++ [s])[Q.length] = s := fun h1 => by
    rw [List.getElem_append_right (by rw [h.len]; exact Nat.le_refl _)]
    simp [h.len]
  have sp : ∀ i, i < (Q ++ [q]).length → i < Q.length ∨ i = Q.length := fun i hi => by simp at hi; omega
  refine ⟨hbox, by simp [h.len], fun i hi hi' => ?_, fun i hi => ?_, fun i hi => ?_, fun i hi hi' => ?_, fun i j hi hj hn => ?_, fun i j hi hj hn => ?_, fun i j hi hj => ?_, by rw [← im]; exact hid, km, fun u v hv => ?_, fun i hi hi' => ?_, h.m3, by rw [show ptrV (Q ++ [q]) = ptrV Q ++ [.pointer (some ⟨q.sb, 0, none⟩)] by simp [ptrV], List.length_append]; exact hown, fun i hi => ?_, h.lom, hbel, h.lo⟩
  · rcases sp i hi with e | e
    · obtain ⟨a1, a2⟩ := gx i e hi hi'
      show RowIs w' ((Q ++ [q])[i]).sb (sC ((x.list ++ [s])[i]) ((Q ++ [q])[i])) _
      rw [a1, a2]
      exact row (by have := (h.lows i e).1; omega) (sbn.2.2 i e) (h.ses i e (h.okQ e))
    · subst e
      show RowIs w' ((Q ++ [q])[Q.length]).sb (sC ((x.list ++ [s])[Q.length]) ((Q ++ [q])[Q.length])) _
      rw [gl hi, gs hi']
      exact hses
  · rcases sp i hi with e | e
    · rw [gq i e hi]; exact ch (h.che i e)
    · subst e; rw [gl hi, hq.1]; exact hen
  · rcases sp i hi with e | e
    · rw [gq i e hi]; exact ch (h.chv i e)
    · subst e; rw [gl hi, hq.2]; exact ch c1
  · rcases sp i hi with e | e
    · obtain ⟨a1, a2⟩ := gx i e hi hi'
      show ((x.list ++ [s])[i]).dead = _
      rw [a1, a2]
      exact h.dd i e (h.okQ e)
    · subst e
      show ((x.list ++ [s])[Q.length]).dead = _
      rw [gl hi, gs hi', hd, hq.1, hq.2]
      rfl
  · rcases sp i hi with e | e <;> rcases sp j hj with e2 | e2
    · rw [gq i e hi, gq j e2 hj]; exact h.sbA i j e e2 hn
    · subst e2; rw [gq i e hi, gl hj]; exact sbn.2.2 i e
    · subst e; rw [gl hi, gq j e2 hj]; exact (sbn.2.2 j e2).symm
    · omega
  · rcases sp i hi with e | e <;> rcases sp j hj with e2 | e2
    · rw [gq i e hi, gq j e2 hj]; exact h.enA i j e e2 hn
    · subst e2; rw [gq i e hi, gl hj]; exact (enn.2.1 i e).1
    · subst e; rw [gl hi, gq j e2 hj]; exact (enn.2.1 j e2).1.symm
    · omega
  · rcases sp i hi with e | e <;> rcases sp j hj with e2 | e2
    · rw [gq i e hi, gq j e2 hj]; exact h.nv i j e e2
    · subst e2; rw [gq i e hi, gl hj]; exact c3 i e
    · subst e; rw [gl hi, gq j e2 hj]; exact (enn.2.1 j e2).2.symm
    · subst e; subst e2; rw [gl hi]; exact enn.2.2.1
  · obtain ⟨c, a1, a2, a3, a4⟩ := h.m1 u v hv
    refine ⟨c, a1, ch a2, a3, fun i hi => ?_⟩
    rcases sp i hi with e | e
    · rw [gq i e hi]; exact a4 i e
    · subst e; rw [gl hi]
      subst a1
      exact enn.2.2.2 u c hv
  · rcases sp i hi with e | e
    · obtain ⟨a1, a2⟩ := gx i e hi hi'
      show ((Q ++ [q])[i]).cd = true ∨ M ((x.list ++ [s])[i]).user = some (.chan (some ((Q ++ [q])[i]).ev))
      rw [a1, a2]
      exact h.m2 i e (h.okQ e)
    · subst e
      show ((Q ++ [q])[Q.length]).cd = true ∨ M ((x.list ++ [s])[Q.length]).user = some (.chan (some ((Q ++ [q])[Q.length]).ev))
      rw [gl hi, gs hi']
      exact .inr hM
  · rcases sp i hi with e | e
    · rw [gq i e hi]; exact h.lows i e
    · subst e; rw [gl hi]; exact ⟨sbn.2.1, enn.1, c2⟩
end
end Go.Proofs.YtlbbjkpdionieaaDoor
/- Sessions: a login, by the program. -/
namespace Go.Proofs.YtlbbjkpdionieaaDoor
set_option linter.unusedSimpArgs false
set_option linter.unusedVariables false
set_option maxRecDepth 20000
open Go.RowKit Go.Maps


theorem But3.below {p q r B : Nat} {w w' : World} (h : But3 p q r w w') (hp : B ≤ p) (hq : B ≤ q) (hr : B ≤ r) (hw : B ≤ w.heap.size) : Below B w w' := ⟨h.os, h.tape, h.output, h.size, fun g hg => h.block g (by omega) (by omega) (by omega) (by omega)⟩
theorem info_ps : (Tryd.prog.info? 84).map (fun i => (i.zero, i.size, i.bytes)) = some (some (.pointer none), 1, 8) := by kernel_rfl
theorem PgE.cc {w0 w1 : World} {b : Nat} {ka : Option Addr} {kl kc : Nat} {x : SsT} {mo me : Nat} {ov : Value} {Q : List BlT} {M : ByteArray → Option Value} {n : Nat} {k t : Int} {u d i : ByteArray} {lim : Nat} {cn : Option Nat} {L : List (Nat × Obj)} {Z : World} (h : PgE w0 w1 b ka kl kc x mo me ov Q M n #[.int .i64 k, .int .i64 t, .string u, .string d, .string i] lim cn L Z) :
    (Z.cell? ⟨w1.heap.size, 2, none⟩ = some (.string u) ∧ Z.cell? ⟨w1.heap.size, 3, none⟩ = some (.string d)) ∧ Z.cell? ⟨b, 3, none⟩ = some (.int .i64 x.now) :=
  ⟨⟨h.re.at rfl, h.re.at rfl⟩, h.sp.box.at rfl⟩
theorem mults_of {w0 w' : World} (h : D.Mults w0) (hb : Below w0.heap.size w0 w') : D.Mults w' := h.keepB hb h.1
theorem tab_of {w0 w' : World} (h : Tab w0) (hb : Below w0.heap.size w0 w') : Tab w' := h.keep hb
def sNew (x : SsT) (u d : ByteArray) : SxT := ⟨[idOf x.key (x.given + 1)], u, d, 1, x.now, x.now, false⟩
def NewSV (sb en c : Nat) (u d : ByteArray) (now : Int) (i : ByteArray) : Array Value := #[.string i, .string u, .string d, .int .i64 1, .int .i64 now, .int .i64 now, .chan (some en), .chan (some c)]
theorem login_end {w0 w wx w6 w8 : World} {b : Nat} {ka : Option Addr} {kl kc : Nat} {x : SsT} {mo me : Nat} {ov ov' : Value} {Q : List BlT} {M : ByteArray → Option Value} {n : Nat} {ev : Array Value} {lim sb en c : Nat} {u d : ByteArray} {o : Obj}
    (E : PgE w0 w b ka kl kc x mo me ov Q M n ev lim (some c) [(sb, Obj.cells (NewSV sb en c u d x.now ⟨#[]⟩) 97 (0, 0)), (en, Obj.chan 0 #[] false 0 0 false)] wx) (hse : sb ≠ en) (hu : M u = some (.chan (some c)))
    (hb6 : RowIs w6 b (vC ka kl kc { x with given := x.given + 1 } mo me ov) 82) (hs6 : RowIs w6 sb (NewSV sb en c u d x.now (idOf x.key (x.given + 1))) 97) (hm6 : KM Tryd.prog 9 Value.string w6 mo (x.given + 1) (updK (idMap x Q) (idOf x.key (x.given + 1)) (.pointer (some ⟨sb, 0, none⟩)))) (hB : But3 b sb mo wx w6)
    (hown : w8.ownsRow (b + 1) 84 1 ov' (Q.length + 1) (ptrV Q ++ [.pointer (some ⟨sb, 0, none⟩)])) (hg : (w6.alloc o).grownBy w8 ov.ownBlock) :
    PsAt w0 (w8.setCell ⟨b, 7, none⟩ ov') b ka kl kc { x with given := x.given + 1, list := x.list ++ [sNew x u d] } mo me ov' (Q ++ [⟨sb, en, c, false, false⟩]) M n ∧ Tch StI w0.heap.size w (w8.setCell ⟨b, 7, none⟩ ov') := by
  obtain ⟨(ys : wx.heap[sb]? = some (Obj.cells (NewSV sb en c u d x.now ⟨#[]⟩) 97 (0, 0))), (ls : lim ≤ sb), (cs : some c ≠ some sb)⟩ := E.rows (sb, _) (List.mem_cons_self ..)
  obtain ⟨(ye : wx.heap[en]? = some (Obj.chan 0 #[] false 0 0 false)), (le : lim ≤ en), (ce : some c ≠ some en)⟩ := E.rows (en, _) (List.mem_cons_of_mem _ (List.mem_cons_self ..))
  have lm := E.lm
  have lom := E.sp.lom
  have ml := E.ml
  have bz := E.sp.box.lt
  have zs := (Array.getElem?_eq_some_iff.1 ys).1
  have ze := (Array.getElem?_eq_some_iff.1 ye).1
  have low := E.sp.own.lt
  have oB : ∀ g, ov.ownBlock = some g → b + 1 ≤ g ∧ g < lim ∧ g ≠ mo := fun g hg2 => by
    obtain ⟨C, hC⟩ := own_is E.sp.own hg2
    obtain ⟨es, cl, em⟩ := E.sp.idm.is
    exact ⟨(low g hg2).1, E.ol g hg2, by rintro rfl; rw [em] at hC; cases hC⟩
  have k8 : ∀ g, g < wx.heap.size → ov.ownBlock ≠ some g → w8.heap[g]? = w6.heap[g]? := fun g gl h4 =>
    (hg.block g (by have := hB.size; simp [World.size_alloc]; omega) (fun e => h4 e.symm)).trans ((bAl (Below.refl _ _) o).block g (Nat.lt_of_lt_of_le gl hB.size))
  have ne : ∀ g, g ≠ b → (w8.setCell ⟨b, 7, none⟩ ov').heap[g]? = w8.heap[g]? := fun g hg2 => heap_setCell_other w8 ⟨b, 7, none⟩ g ov' hg2
  have fr : ∀ g o', wx.heap[g]? = some o' → g ≠ b → g ≠ mo → g ≠ sb → ov.ownBlock ≠ some g → (w8.setCell ⟨b, 7, none⟩ ov').heap[g]? = some o' := fun g o' h0 h1 h2 h3 h4 => by
    have gl := (Array.getElem?_eq_some_iff.1 h0).1
    rw [ne g h1, k8 g gl h4, hB.block g gl h1 h3 h2]
    exact h0
  have nb : ov.ownBlock ≠ some b := fun e => by have := oB b e; omega
  have ns : ov.ownBlock ≠ some sb := fun e => by have := oB sb e; omega
  have nm : ov.ownBlock ≠ some mo := fun e => (oB mo e).2.2 rfl
  have lo := E.sp.lo
  have B8 : Below w0.heap.size wx w8 := ⟨hg.os.trans hB.os, hg.tape.trans hB.tape, hg.output.trans hB.output, Nat.le_trans hB.size (Nat.le_trans (by simp [World.size_alloc]) hg.size), fun g gl => by
    have gz : g < wx.heap.size := by omega
    rw [k8 g gz (fun e => by have := oB g e; omega)]
    exact hB.block g gz (by omega) (by omega) (by omega)⟩
  have B9 : Below w0.heap.size wx (w8.setCell ⟨b, 7, none⟩ ov') := B8.setCell lo _
  have rb8 : RowIs w8 b (vC ka kl kc { x with given := x.given + 1 } mo me ov) 82 := by
    unfold RowIs at *
    rw [k8 b bz nb]; exact hb6
  have rs8 : RowIs w8 sb (NewSV sb en c u d x.now (idOf x.key (x.given + 1))) 97 := by
    unfold RowIs at *
    rw [k8 sb zs ns]; exact hs6
  refine ⟨?_, ?_⟩
  · refine E.sp.snoc (sNew x u d) ⟨sb, en, c, false, false⟩ (idOf x.key (x.given + 1)) rfl rfl ⟨rfl, rfl⟩ hu ⟨(by omega : sb ≠ b), (by omega : b < sb), fun i hi => ?_⟩ ⟨(by omega : b < en), fun i hi => ?_, fun e => ce (by rw [show en = c from e]), fun v c' hv e => ?_⟩ (rb8.set 7 ov') (rs8.setOther _ (by show sb ≠ b; omega)) ?_ ?_ ?_ (fun g o' h0 h1 h2 h3 h4 => fr g o' h0 h1 h2 h3 h4) ns ?_ ⟨_, ys⟩
    · have := E.qs i hi; show Q[i].sb ≠ sb; omega
    · have := E.qs i hi; show Q[i].en ≠ en ∧ Q[i].ev ≠ en; omega
    · rcases E.mc v c' hv with q | q
      · have e2 : en = c' := e
        omega
      · exact ce (by rw [show en = c' from e]; exact q)
    · exact ⟨_, _, fr en _ ye (by omega) (by omega) (Ne.symm hse) (fun e => by have := oB en e; omega)⟩
    · exact (hm6.block (k8 mo (by omega) nm)).block (ne mo (by omega))
    · exact own_blk hown (fun g hg2 => ne g (by have := (hown.lt g hg2).1; omega))
    · have := E.sp.lo
      have q := E.sp.bel
      exact ⟨B9.os.trans q.os, B9.tape.trans q.tape, B9.output.trans q.output, Nat.le_trans q.size B9.size, fun g gl => (B9.block g (by omega)).trans (q.block g gl)⟩
  · refine E.tc.trans ⟨B9, fun g C T f h0 hn => ?_⟩
    have tb := E.sp.box
    obtain ⟨es, cl, em⟩ := E.sp.idm.is
    refine fr g _ h0 ?_ ?_ ?_ ?_
    · rintro rfl; unfold RowIs at tb; rw [tb] at h0; cases h0; exact hn (.inl rfl)
    · rintro rfl; rw [em] at h0; cases h0
    · rintro rfl; rw [ys] at h0; cases h0; exact hn (.inr (.inl rfl))
    · intro e
      obtain ⟨C2, hC2⟩ := own_is E.sp.own e
      rw [hC2] at h0; cases h0; exact hn (.inr (.inr rfl))
theorem own_slice {w : World} {base e size n : Nat} {v : Value} {xs : List Value} (h : w.ownsRow base e size v n xs) : ∃ a c, v = .slice a n c := by
  obtain ⟨_, ⟨rfl, rfl⟩ | ⟨g, cap, cur, rfl, _⟩⟩ := h
  · exact ⟨_, _, rfl⟩
  · exact ⟨_, _, rfl⟩
theorem gid_of {w0 w wx : World} {b : Nat} {ka : Option Addr} {kl kc : Nat} {x : SsT} {mo me : Nat} {ov : Value} {Q : List BlT} {M : ByteArray → Option Value} {n : Nat} {ev : Array Value} {lim sb en c : Nat} {u d : ByteArray}
    (E : PgE w0 w b ka kl kc x mo me ov Q M n ev lim (some c) [(sb, Obj.cells (NewSV sb en c u d x.now ⟨#[]⟩) 97 (0, 0)), (en, Obj.chan 0 #[] false 0 0 false)] wx) (hse : sb ≠ en) (hQ : Q.length ≤ 990) (hg : x.given ≤ 990) (hK : D.SlB w0 w0.heap.size ka kl x.key) (hkl : kl ≤ 64) (hM : D.Mults w0) (hT : Tab w0) :
    Calls Tryd.prog 52 #[.pointer (some ⟨b, 0, none⟩), .pointer (some ⟨sb, 0, none⟩)] wx fun e w' => e = .returned (.tuple #[]) ∧ RowIs w' b (vC ka kl kc { x with given := x.given + 1 } mo me ov) 82 ∧ RowIs w' sb (NewSV sb en c u d x.now (idOf x.key (x.given + 1))) 97 ∧ KM Tryd.prog 9 Value.string w' mo (x.given + 1) (updK (idMap x Q) (idOf x.key (x.given + 1)) (.pointer (some ⟨sb, 0, none⟩))) ∧ But3 b sb mo wx w' ∧ w'.ownsRow (b + 1) 84 1 ov Q.length (ptrV Q) := by
  obtain ⟨(ys : wx.heap[sb]? = some (Obj.cells (NewSV sb en c u d x.now ⟨#[]⟩) 97 (0, 0))), (ls : lim ≤ sb), (cs : some c ≠ some sb)⟩ := E.rows (sb, _) (List.mem_cons_self ..)
  have lm := E.lm
  have lom := E.sp.lom
  have ml := E.ml
  have lo := E.sp.lo
  have bz := E.sp.box.lt
  have zs := (Array.getElem?_eq_some_iff.1 ys).1
  have bl : ∀ w', But3 b sb mo wx w' → Below w0.heap.size w0 w' := fun w' hB => E.sp.bel.trans (hB.below lo (by omega) (by omega) (Nat.le_trans lo (Nat.le_of_lt bz)))
  refine (giveId_low b sb mo me x.given ka kl kc x ov ⟨#[]⟩ (.string u) (.string d) (.int .i64 1) (.int .i64 x.now) (.int .i64 x.now) (.chan (some en)) (.chan (some c)) (idMap x Q) wx E.sp.box ys (by omega) E.sp.idm (by omega) ⟨by omega, by omega⟩ ((hK.keepB E.sp.bel).mono lo) hkl (by omega) (fun w' hB => mults_of hM (bl w' hB)) (fun w' hB => tab_of hT (bl w' hB))).mono ?_
  rintro e w' ⟨a1, a2, a3, a4, a5⟩
  refine ⟨a1, a2, a3, a4, a5, own_blk E.sp.own (fun g hg2 => ?_)⟩
  obtain ⟨C, hC⟩ := own_is E.sp.own hg2
  obtain ⟨es, cl, em⟩ := E.sp.idm.is
  have := E.ol g hg2
  have q := E.sp.own.lt g hg2
  exact a5.block g q.2 (by omega) (by omega) (by rintro rfl; rw [em] at hC; cases hC)
set_option maxHeartbeats 8000000 in
theorem login_any {w0 w : World} {b : Nat} {ka : Option Addr} {kl kc : Nat} {x : SsT} {mo me : Nat} {ov : Value} {Q : List BlT} {M : ByteArray → Option Value} {n : Nat} (h : PsAt w0 w b ka kl kc x mo me ov Q M n) (hn : n ≤ x.given) (hg : x.given ≤ 990) (hQ : Q.length ≤ 990) (k t : Int) (u d i : ByteArray) (hu : u.size ≤ maxLen) (hK : D.SlB w0 w0.heap.size ka kl x.key) (hkl : kl ≤ 64) (hM : D.Mults w0) (hT : Tab w0) :
    Calls Tryd.prog 42 #[.pointer (some ⟨b, 0, none⟩), .agg #[.int .i64 k, .int .i64 t, .string u, .string d, .string i]] w fun e w' => ∃ ov' q M' n', e = .returned (.pointer (some ⟨q.sb, 0, none⟩)) ∧ n' ≤ x.given + 1 ∧ PsAt w0 w' b ka kl kc { x with given := x.given + 1, list := x.list ++ [sNew x u d] } mo me ov' (Q ++ [q]) M' n' ∧ Tch StI w0.heap.size w w' := by
  have hbz := h.box.lt
  obtain ⟨W1, hW1⟩ : ∃ W, W = w.alloc (.cells #[.int .i64 k, .int .i64 t, .string u, .string d, .string i] 50) := ⟨_, rfl⟩
  have b1 : Below w.heap.size w W1 := by rw [hW1]; exact bAl (Below.refl _ _) _
  have E0 := hide (show PgE w0 w b ka kl kc x mo me ov Q M n #[.int .i64 k, .int .i64 t, .string u, .string d, .string i] W1.heap.size none [] W1 from PgE.start (h.keep b1) (h.tch b1) (by rw [hW1]; exact RowIs.new _ _ _) hbz)
  have HW1 := hide hW1.symm
  clear hW1 b1
  have qev := hide (fun (L : List (Nat × Obj)) (Z : World) (E : PgE w0 w b ka kl kc x mo me ov Q M n #[.int .i64 k, .int .i64 t, .string u, .string d, .string i] W1.heap.size none L Z) => ev_ev E (by omega) u hu)
  obtain ⟨N0, hN0⟩ : ∃ q, q = x.now := ⟨_, rfl⟩
  have hmk := mkCh
  go_enter Tryd.func42, Tryd.ntmps42
  go_upto_region 1 with fail
  refine wp_world (unhide HW1) ?_
  clear HW1
  go_cut [5] from 6 (fun sx wx => ∃ (sb en c : Nat) (M' : ByteArray → Option Value) (n' : Nat), sx = .pointer (some ⟨sb, 0, none⟩) ∧ n' ≤ n + 1 ∧ M' u = some (.chan (some c)) ∧ sb ≠ en ∧ Hid (PgE w0 w b ka kl kc x mo me ov Q M' n' #[.int .i64 k, .int .i64 t, .string u, .string d, .string i] W1.heap.size (some c) [(sb, Obj.cells #[.string ⟨#[]⟩, .string u, .string d, .int .i64 1, .int .i64 x.now, .int .i64 x.now, .chan (some en), .chan (some c)] 97), (en, Obj.chan 0 #[] false 0 0 false)] wx))
  case first =>
    have E1 := hide (unhide E0).dr
    go_region_held3 (fun Z => (Z.cell? ⟨w.heap.size, 2, none⟩ = some (.string u) ∧ Z.cell? ⟨w.heap.size, 3, none⟩ = some (.string d)) ∧ Z.cell? ⟨b, 3, none⟩ = some (.int .i64 x.now))
      (first
        | with_reducible exact PgE.cc (unhide E1)
        | with_reducible exact PgE.cc (((unhide E0).alO _ _ rfl).dr)
        | with_reducible exact PgE.cc (unhide E2)
        | with_reducible exact PgE.cc ((unhide E2).alO _ _ rfl)
        | with_reducible exact PgE.cc (((unhide E2).alO _ _ rfl).alO _ _ rfl))
      (first
        | (go_at_call 51; (first | with_reducible refine (unhide qev _ _ (unhide E1)).mono ?_ | with_reducible refine (unhide qev _ _ (((unhide E0).alO _ _ rfl).dr)).mono ?_); rintro e w6 ⟨c, M', n', rfl, hn6, hu6, hE⟩; have E2 := hide hE; have HN6 := hide hn6; have HU6 := hide hu6; clear hE hn6 hu6))
    all_goals
      iterate 40 (try clear hHeld)
      (try go_wp2_with fail)
      go_meet
      case rel =>
        first
          | with_reducible refine ⟨_, _, _, _, _, rfl, unhide HN6, unhide HU6, ?_, hide ((unhide E2).alO _ _ rfl)⟩
          | refine ⟨_, _, _, _, _, rfl, unhide HN6, unhide HU6, ?_, hide (((unhide E2).alO _ _ rfl).alO _ _ (by simp [World.size_alloc]))⟩
        first
          | exact Nat.ne_of_gt (Array.getElem?_eq_some_iff.1 ((unhide E2).rows _ (List.mem_cons_self ..)).1).1
          | omega
  clear E0 qev hmk
  obtain ⟨sb, en, c, M', n', rfl, hn', hu', hse, hE0⟩ := hcut
  have gid := hide (gid_of (unhide hE0) hse hQ hg hK hkl hM hT)
  have HE := hide (unhide hE0)
  clear hK hM hT hE0 h
  obtain ⟨i0, hi, hz0, hz1, hz2⟩ := info_parts info_ps
  go_wp2_with fail
  refine (unhide gid).mono ?_
  rintro e w6 ⟨rfl, hb6, hs6, hm6, hB, hown6⟩
  have B6 := hide hb6
  have S6 := hide hs6
  have M6 := hide hm6
  have D6 := hide hB
  have O6 := hide hown6
  have c7 := hb6.at (o := 7) (v := ov) rfl
  have f7 := hb6.froz 7
  have z7 := hb6.lt
  have OB := hide (show ∀ g, ov.ownBlock = some g → b + 1 ≤ g from fun g e => (hown6.lt g e).1)
  clear hs6 hm6 hB hown6 hb6
  go_wp2_with (at_builtin; refine wpList_append_own _ rfl _ _ 80 rfl (b + 1) 84 i0 (.pointer none) 1 8 Tryd.underlying80 hi hz0 hz1 hz2 rfl (by decide) _ _ _ rfl ((unhide O6).alloc _) ⟨_, 0, none⟩ 1 1 [.pointer (some ⟨sb, 0, none⟩)] rfl rfl (cell_one_new _ _ _) (fun x hx => by simp at hx; subst hx; rfl) (by unfold maxLen; omega) (by omega) (by simp; omega) ?_; intro v8 w8 hown8 hgrow8 _; obtain ⟨va, vc, rfl⟩ := own_slice hown8; have B8 := hide (row_grown ((unhide B6).keep (bAl (Below.refl _ _) _)) hgrow8 (fun e => by have := unhide OB b e.symm; omega)); have b7 := (unhide B8).at (o := 7) (v := ov) rfl; have g7 := (unhide B8).froz 7; have y7 := (unhide B8).lt; have OW := hide hown8; have GR := hide hgrow8; clear hown8 hgrow8)
  go_ret
  refine ⟨.slice va (Q.length + 1) vc, ⟨sb, en, c, false, false⟩, M', n', rfl, by omega, ?_⟩
  exact login_end (unhide HE) hse hu' (unhide B6) (unhide S6) (unhide M6) (unhide D6) (unhide OW) (unhide GR)
end Go.Proofs.YtlbbjkpdionieaaDoor
/- Sessions: signing out everywhere, by the program. -/
namespace Go.Proofs.YtlbbjkpdionieaaDoor
set_option linter.unusedSimpArgs false
set_option linter.unusedVariables false
set_option maxRecDepth 20000
open Go.RowKit Go.Maps


section
variable {α : Type} [DecidableEq α]
def delK (m : α → Option Value) (y : α) : α → Option Value := fun z => if z = y then none else m z
theorem wpList_del_km {P : Program} {k : TypeId} {enc : α → Value} {ok : α → Prop} (w : World) {ops : Array Oper} {rest : List Oper} {o : Oper} {a : Act} {Q : Exit → Act → World → Prop} (K : KeyKind P k enc ok) (hg : o.guard = none) (m x : Operand) (t : TypeId) (hop : o.op = Op.call { callee := Callee.builtin Builtin.delete, args := #[m, x], argTypes := #[t, k] }) (e : TypeId) (ht : P.underlying t = some (.map k e)) (b n : Nat) (M : α → Option Value) (hm : a.eval m = .map (some b)) (hk : KM P k enc w b n M)
    (y : α) (hx : a.eval x = enc y) (hy : ok y)
    (hK : ∀ w', KM P k enc w' b n (delK M y) → w.grownBy w' (some b) → w'.heap.size = w.heap.size → wpList P ops Q rest (a.put o.dst (.tuple #[])) w') : wpList P ops Q (o :: rest) a w := by
  obtain ⟨D, hown, hD⟩ := hk
  obtain ⟨kl, hkl⟩ := K.key y hy
  refine wpList_delete_own w hg m x t k hop e K.law ht hvR b n D hm hown (enc y) kl hx hkl ?_
  intro w' h1 h2
  refine hK w' ⟨_, h1, fun y' kl' hk' => ?_⟩ h2.grown (by obtain ⟨es, cl, es', cl', _, rfl⟩ := h2; simp [ChangeMaps.setBlock])
  by_cases e : y' = y
  · subst e
    obtain rfl : kl' = kl := by rw [hkl] at hk'; exact (Option.some.inj hk').symm
    have hu : delK M y' y' = none := by simp [delK]
    rw [hu]
    exact ⟨Maps.has_del_same, fun c' hc' => by cases hc'⟩
  · have hne : kl' ≠ kl := fun e2 => e (K.inj _ _ (K.law.inj hk' (by rw [e2]; exact hkl)))
    have hu : delK M y y' = M y' := by simp [delK, e]
    rw [hu, Maps.has_del_other hne]
    refine ⟨(hD y' kl' hk').1, fun c' hc' z => ?_⟩
    rw [Maps.atKey_del_other hne]
    exact (hD y' kl' hk').2 c' hc' z
end
def shutQ (c : Nat) (q : BlT) : BlT := if q.ev = c then { q with cd := true } else q
theorem shutQ_f (c : Nat) (q : BlT) : (shutQ c q).sb = q.sb ∧ (shutQ c q).en = q.en ∧ (shutQ c q).ev = q.ev ∧ (shutQ c q).ce = q.ce := by unfold shutQ; split <;> exact ⟨rfl, rfl, rfl, rfl⟩
section
variable {w0 w : World} {b : Nat} {ka : Option Addr} {kl kc : Nat} {x : SsT} {mo me : Nat} {ov : Value} {Q : List BlT} {M : ByteArray → Option Value} {n : Nat}
theorem PsAt.shut (h : PsAt w0 w b ka kl kc x mo me ov Q M n) {u : ByteArray} {c : Nat} {w' : World} (hM : M u = some (.chan (some c))) (hk : ∀ g, g < w.heap.size → g ≠ c → g ≠ me → w'.heap[g]? = w.heap[g]?) (hc : ChanAt w' c true) (hm : KM Tryd.prog 9 Value.string w' me n (delK M u)) (hB : Below w0.heap.size w0 w') :
    PsAt w0 w' b ka kl kc { x with list := killAll u x.list } mo me ov (Q.map (shutQ c)) (delK M u) n := by
  obtain ⟨c0, cc, c1, c2, c3⟩ := h.m1 _ _ hM
  cases cc
  obtain ⟨s1, r1, ec⟩ := c1
  obtain ⟨es, cl, em⟩ := h.evm.is
  have row : ∀ {g : Nat} {C : Array Value} {T : TypeId}, RowIs w g C T → RowIs w' g C T := fun {g C T} hr => by
    have hl := hr.lt
    unfold RowIs at *
    rw [hk g hl (by rintro rfl; rw [ec] at hr; cases hr) (by rintro rfl; rw [em] at hr; cases hr)]
    exact hr
  have ch : ∀ {k : Nat} {d : Bool}, k ≠ c → ChanAt w k d → ChanAt w' k d := fun {k d} hn hc2 => hc2.same (hk k hc2.lt hn (by
    rintro rfl
    obtain ⟨s, r, e2⟩ := hc2
    rw [em] at e2
    cases e2))
  have gq : ∀ i (hi : i < Q.length) (h' : i < (Q.map (shutQ c)).length), (Q.map (shutQ c))[i] = shutQ c Q[i] := fun i hi h' => by simp
  have gx : ∀ i (hi : i < x.list.length) (h' : i < (killAll u x.list).length), (killAll u x.list)[i] = if x.list[i].user = u then { (x.list[i]) with dead := true } else x.list[i] := fun i hi h' => by simp [killAll]
  have evc : ∀ i (hi : i < Q.length), Q[i].ev = c → Q[i].cd = false ∧ (x.list[i]'(h.okQ hi)).user = u := fun i hi e => by
    have q : Q[i].cd = false := by
      have a := h.chv i hi
      rw [e] at a
      exact a.uniq ⟨s1, r1, ec⟩
    rcases h.m2 i hi (h.okQ hi) with e2 | e2
    · rw [q] at e2; cases e2
    · exact ⟨q, h.m3 _ _ _ (by rw [e2, e]) hM⟩
  have uev : ∀ i (hi : i < Q.length), (x.list[i]'(h.okQ hi)).user = u → Q[i].cd = true ∨ Q[i].ev = c := fun i hi e => by
    rcases h.m2 i hi (h.okQ hi) with e2 | e2
    · exact .inl e2
    · rw [e, hM] at e2
      cases e2
      exact .inr rfl
  have pv : ptrV (Q.map (shutQ c)) = ptrV Q := by
    unfold ptrV
    rw [List.map_map]
    refine List.map_congr_left fun q _ => ?_
    show (.pointer (some ⟨(shutQ c q).sb, 0, none⟩) : Value) = _
    rw [(shutQ_f c q).1]
  have im : idMap { x with list := killAll u x.list } (Q.map (shutQ c)) = idMap x Q := by
    funext y
    unfold idMap
    rw [idsL_killAll]
    cases e : findI (idsL x.list) y with
    | none => rfl
    | some i =>
      have hi : i < Q.length := by
        have q := (findK_some e).1
        rw [h.len]
        unfold idsL at q
        simpa using q
      simp only [Option.map_some]
      rw [List.getD_eq_getElem?_getD, List.getD_eq_getElem?_getD, List.getElem?_eq_getElem (by simpa using hi), List.getElem?_eq_getElem hi]
      simp only [Option.getD_some]
      rw [gq i hi, (shutQ_f c _).1]
  refine ⟨row h.box, by simpa [killAll] using h.len, fun i hi hi' => ?_, fun i hi => ?_, fun i hi => ?_, fun i hi hi' => ?_, fun i k hi hk2 hn => ?_, fun i k hi hk2 hn => ?_, fun i k hi hk2 => ?_, ?_, hm, fun a v hv => ?_, fun i hi hi' => ?_, fun a a' v hv hv' => ?_, ?_, fun i hi => ?_, h.lom, hB, h.lo⟩
  · have h1 : i < Q.length := by simpa using hi
    have h2 := h.okQ h1
    show RowIs w' ((Q.map (shutQ c))[i]).sb (sC ((killAll u x.list)[i]) ((Q.map (shutQ c))[i])) _
    rw [gq i h1, gx i h2]
    obtain ⟨a1, a2, a3, a4⟩ := shutQ_f c Q[i]
    rw [a1]
    have q : sC (if x.list[i].user = u then { (x.list[i]) with dead := true } else x.list[i]) (shutQ c Q[i]) = sC x.list[i] Q[i] := by
      unfold sC
      rw [a2, a3]
      split <;> rfl
    rw [q]
    exact row (h.ses i h1 h2)
  · have h1 : i < Q.length := by simpa using hi
    rw [gq i h1, (shutQ_f c Q[i]).2.1, (shutQ_f c Q[i]).2.2.2]
    exact ch (c3 i h1) (h.che i h1)
  · have h1 : i < Q.length := by simpa using hi
    rw [gq i h1, (shutQ_f c Q[i]).2.2.1]
    by_cases e : Q[i].ev = c
    · rw [e]
      unfold shutQ
      rw [if_pos e]
      exact hc
    · unfold shutQ
      rw [if_neg e]
      exact ch e (h.chv i h1)
  · have h1 : i < Q.length := by simpa using hi
    have h2 := h.okQ h1
    show ((killAll u x.list)[i]).dead = _
    rw [gq i h1, gx i h2, (shutQ_f c Q[i]).2.2.2]
    by_cases e : Q[i].ev = c
    · rw [if_pos (evc i h1 e).2]
      unfold shutQ
      rw [if_pos e]
      simp
    · unfold shutQ
      rw [if_neg e]
      by_cases e2 : x.list[i].user = u
      · rw [if_pos e2]
        rcases uev i h1 e2 with e3 | e3
        · rw [e3]; simp
        · exact absurd e3 e
      · rw [if_neg e2]
        exact h.dd i h1 h2
  · have h1 : i < Q.length := by simpa using hi
    have h2 : k < Q.length := by simpa using hk2
    rw [gq i h1, gq k h2, (shutQ_f c _).1, (shutQ_f c _).1]
    exact h.sbA i k h1 h2 hn
  · have h1 : i < Q.length := by simpa using hi
    have h2 : k < Q.length := by simpa using hk2
    rw [gq i h1, gq k h2, (shutQ_f c _).2.1, (shutQ_f c _).2.1]
    exact h.enA i k h1 h2 hn
  · have h1 : i < Q.length := by simpa using hi
    have h2 : k < Q.length := by simpa using hk2
    rw [gq i h1, gq k h2, (shutQ_f c _).2.1, (shutQ_f c _).2.2.1]
    exact h.nv i k h1 h2
  · rw [im]
    exact h.idm.block (hk mo h.idm.lt (by
      obtain ⟨es2, cl2, e2⟩ := h.idm.is
      rintro rfl
      rw [ec] at e2
      cases e2) h.lom.2.2.1)
  · unfold delK at hv
    split at hv
    · cases hv
    · rename_i ne
      obtain ⟨c', a1, a2, a3, a4⟩ := h.m1 a v hv
      refine ⟨c', a1, ch ?_ a2, a3, fun i hi => ?_⟩
      · rintro rfl
        exact ne (h.m3 _ _ _ (by rw [hv, a1]) hM)
      · have h1 : i < Q.length := by simpa using hi
        rw [gq i h1, (shutQ_f c _).2.1]
        exact a4 i h1
  · have h1 : i < Q.length := by simpa using hi
    have h2 := h.okQ h1
    show ((Q.map (shutQ c))[i]).cd = true ∨ delK M u ((killAll u x.list)[i]).user = some (.chan (some ((Q.map (shutQ c))[i]).ev))
    rw [gq i h1, gx i h2, (shutQ_f c _).2.2.1]
    have q : (if x.list[i].user = u then { (x.list[i]) with dead := true } else x.list[i]).user = x.list[i].user := by split <;> rfl
    rw [q]
    by_cases e : Q[i].ev = c
    · refine .inl ?_
      unfold shutQ
      rw [if_pos e]
    · unfold shutQ
      rw [if_neg e]
      rcases h.m2 i h1 h2 with e2 | e2
      · exact .inl e2
      · refine .inr ?_
        unfold delK
        rw [if_neg (fun e3 => by rcases uev i h1 e3 with e4 | e4
                                 · exact e (by rw [e3, hM] at e2; cases e2; rfl)
                                 · exact e e4)]
        exact e2
  · unfold delK at hv hv'
    split at hv
    · cases hv
    · split at hv'
      · cases hv'
      · exact h.m3 a a' v hv hv'
  · rw [pv, List.length_map]
    exact own_blk h.own (fun g hg => by
      obtain ⟨C, hC⟩ := own_is h.own hg
      exact hk g (h.own.lt g hg).2 (by rintro rfl; rw [ec] at hC; cases hC) (by rintro rfl; rw [em] at hC; cases hC))
  · have h1 : i < Q.length := by simpa using hi
    rw [gq i h1, (shutQ_f c _).1, (shutQ_f c _).2.1, (shutQ_f c _).2.2.1]
    exact h.lows i h1
theorem PsAt.none (h : PsAt w0 w b ka kl kc x mo me ov Q M n) {u : ByteArray} (hM : M u = none) : killAll u x.list = x.list := by
  unfold killAll
  refine List.ext_getElem (by simp) fun i h1 h2 => ?_
  have hi : i < Q.length := by rw [h.len]; exact h2
  simp only [List.getElem_map]
  split
  · rename_i e
    have d : x.list[i].dead = true := by
      rw [h.dd i hi h2]
      rcases h.m2 i hi h2 with e2 | e2
      · rw [e2]; simp
      · rw [e, hM] at e2; cases e2
    have : ∀ s : SxT, s.dead = true → { s with dead := true } = s := fun s hs => by cases s; simp at hs; subst hs; rfl
    exact this _ d
  · rfl
end
end Go.Proofs.YtlbbjkpdionieaaDoor
