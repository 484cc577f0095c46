/- LSn, LSo, LSp, one behind the other. -/
import Derived.Test.YtppkgcedkdeccaaDoorJ21
import Derived.BigQuiet
import Derived.Deep.RegionHeld3
import Derived.Deep.AppendLies
import Derived.Deep.Cut
import Derived.Deep.RegionLawGrows
/- Sessions: the specification's do: a login. -/
namespace Go.Proofs.YtppkgcedkdeccaaDoor
set_option linter.unusedSimpArgs false
set_option linter.unusedVariables false
set_option maxRecDepth 20000
open Go.RowKit Go.Maps


/-- All that is kept while an Id is made: the state, the boxes, and new rows. -/
structure LgE (w0 w : World) (b : Nat) (ka : Option Addr) (kl kc : Nat) (x : SsT) (v : Value) (P : List PxT) (ev : Array Value) (lim : Nat) (L : List (Nat × Array Value × TypeId)) (Z : World) : Prop where
  sp : SpAt w0 Z b ka kl kc x v P
  tc : Tch St b w Z
  re : RowIs Z w.heap.size ev 34
  rp : RowIs Z (w.heap.size + 1) rp0 31
  lm : w.heap.size + 1 < lim ∧ lim ≤ Z.heap.size ∧ b < w.heap.size
  sv : ∀ g, v.ownBlock = some g → g < lim
  sg : ∀ q (h : q < P.length), P[q].g < lim
  rows : ∀ y ∈ L, RowIs Z y.1 y.2.1 y.2.2 ∧ lim ≤ y.1
section
variable {w0 w : World} {b : Nat} {ka : Option Addr} {kl kc : Nat} {x : SsT} {v : Value} {P : List PxT} {ev : Array Value} {lim : Nat} {L : List (Nat × Array Value × TypeId)} {Z : World}
theorem LgE.start (h : SpAt w0 Z b ka kl kc x v P) (tc : Tch St b w Z) (re : RowIs Z w.heap.size ev 34) (rp : RowIs Z (w.heap.size + 1) rp0 31) (hb : b < w.heap.size) : LgE w0 w b ka kl kc x v P ev Z.heap.size [] Z :=
  ⟨h, tc, re, rp, ⟨rp.lt, Nat.le_refl _, hb⟩, fun g hg => (h.row.lt g hg).2, fun q hq => ((h.ids q hq).lt _ rfl).2, fun y hy => by cases hy⟩
theorem LgE.keep {Z' : World} (h : LgE w0 w b ka kl kc x v P ev lim L Z) (hb : Below Z.heap.size Z Z') : LgE w0 w b ka kl kc x v P ev lim L Z' :=
  ⟨h.sp.keep hb, h.tc.trans (h.sp.tch hb), h.re.keep hb, h.rp.keep hb, ⟨h.lm.1, Nat.le_trans h.lm.2.1 hb.size, h.lm.2.2⟩, h.sv, h.sg, fun y hy => ⟨(h.rows y hy).1.keep hb, (h.rows y hy).2⟩⟩
theorem LgE.dr (h : LgE w0 w b ka kl kc x v P ev lim L Z) : LgE w0 w b ka kl kc x v P ev lim L Z.drew := h.keep (Below.refl _ _).drew
theorem LgE.alB (h : LgE w0 w b ka kl kc x v P ev lim L Z) (C : Array Value) (T : TypeId) : LgE w0 w b ka kl kc x v P ev lim ((Z.heap.size, C, T) :: L) (Z.alloc (.cells C T)) := by
  have q := h.keep (bAl (Below.refl _ _) (.cells C T))
  refine ⟨q.sp, q.tc, q.re, q.rp, q.lm, q.sv, q.sg, fun y hy => ?_⟩
  rcases List.mem_cons.1 hy with rfl | hy
  · exact ⟨RowIs.new _ _ _, h.lm.2.1⟩
  · exact q.rows y hy
theorem LgE.alN (h : LgE w0 w b ka kl kc x v P ev lim L Z) (C : Array Value) (T : TypeId) (n : Nat) (hn : n = Z.heap.size) : LgE w0 w b ka kl kc x v P ev lim ((n, C, T) :: L) (Z.alloc (.cells C T)) := by
  subst hn; exact h.alB C T
theorem LgE.swap {y z : Nat × Array Value × TypeId} (h : LgE w0 w b ka kl kc x v P ev lim [y, z] Z) : LgE w0 w b ka kl kc x v P ev lim [z, y] Z :=
  ⟨h.sp, h.tc, h.re, h.rp, h.lm, h.sv, h.sg, fun a ha => h.rows a (by simp at ha ⊢; exact ha.symm)⟩
theorem LgE.put {g : Nat} {C : Array Value} {T : TypeId} (h : LgE w0 w b ka kl kc x v P ev lim ((g, C, T) :: L) Z) (hn : ∀ y ∈ L, y.1 ≠ g) (o : Nat) (u : Value) : LgE w0 w b ka kl kc x v P ev lim ((g, C.setIfInBounds o u, T) :: L) (Z.setCell ⟨g, o, none⟩ u) := by
  obtain ⟨hr, hg⟩ := h.rows _ (List.mem_cons_self ..)
  have hr' : RowIs Z g C T := hr
  have hg' : lim ≤ g := hg
  have lm := h.lm
  have bl : ∀ k, k < lim → (Z.setCell ⟨g, o, none⟩ u).heap[k]? = Z.heap[k]? := fun k hk => heap_setCell_other Z ⟨g, o, none⟩ k u (show k ≠ g by omega)
  have hlo := h.sp.lo
  refine ⟨⟨h.sp.box.setOther _ (by omega), h.sp.lst, own_blk h.sp.row (fun k hk => bl k (h.sv k hk)), fun q hq => own_blk (h.sp.ids q hq) (fun k hk => by cases hk; exact bl _ (h.sg q hq)), h.sp.ap, h.sp.bel.setCell (by show w0.heap.size ≤ g; omega) _, h.sp.lo⟩,
    h.tc.setNew (by omega) (by omega) _ _, h.re.setOther _ (by omega), h.rp.setOther _ (by omega), ⟨lm.1, by simpa [World.setCell] using lm.2.1, lm.2.2⟩, h.sv, h.sg, fun y hy => ?_⟩
  rcases List.mem_cons.1 hy with rfl | hy
  · exact ⟨hr'.set o u, hg'⟩
  · exact ⟨(h.rows y (List.mem_cons_of_mem _ hy)).1.setOther _ (hn y hy), (h.rows y (List.mem_cons_of_mem _ hy)).2⟩
theorem id_ev (h : LgE w0 w b ka kl kc x v P ev lim L Z) (hk : D.SlB w0 w0.heap.size ka kl x.key) (hl : kl ≤ 1048576) (hg : x.given ≤ 1000) :
    Calls Tryd.prog 55 #[.pointer (some ⟨b, 0, none⟩)] Z fun e w' => e = .returned (.string (idOf x.key (x.given + 1))) ∧ LgE w0 w b ka kl kc { x with given := x.given + 1 } v P ev lim L w' := by
  refine (sId_any b ka kl kc x v Z h.sp.box ((hk.keepB h.sp.bel).mono h.sp.lo) hl hg).mono ?_
  rintro e w' ⟨rfl, hb⟩
  refine ⟨rfl, ?_⟩
  have lm := h.lm
  have hz : (Z.setCell ⟨b, 4, none⟩ (.int .i64 ((x.given + 1 : Nat) : Int))).heap.size = Z.heap.size := by simp [World.setCell]
  have E : LgE w0 w b ka kl kc { x with given := x.given + 1 } v P ev lim L (Z.setCell ⟨b, 4, none⟩ (.int .i64 ((x.given + 1 : Nat) : Int))) :=
    ⟨h.sp.setBox 4 _ _ _ rfl rfl rfl, h.tc.trans (h.sp.tchB _ _), h.re.setOther _ (by omega), h.rp.setOther _ (by omega), ⟨lm.1, by rw [hz]; exact lm.2.1, lm.2.2⟩, h.sv, h.sg, fun y hy => ⟨(h.rows y hy).1.setOther _ (by have := (h.rows y hy).2; omega), (h.rows y hy).2⟩⟩
  exact E.keep (by rw [hz]; exact hb)
end
theorem cells_new (w : World) (C : Array Value) (T : TypeId) (q : Nat) (hq : q = w.heap.size) : ∀ j u, C.toList[j]? = some u → (w.alloc (.cells C T)).cell? ((⟨q, 0, none⟩ : Addr).add j) = some u := by
  subst hq
  intro j u h
  have e : ((⟨w.heap.size, 0, none⟩ : Addr).add j) = ⟨w.heap.size, j, none⟩ := by rw [addr_SessReply, Nat.zero_add]
  rw [e]
  exact (RowIs.new w C T).at (by simpa using h)
theorem SpAt.snoc {w0 W w4 : World} {b : Nat} {ka : Option Addr} {kl kc : Nat} {x : SsT} {v v' : Value} {P : List PxT} (h : SpAt w0 W b ka kl kc x v P) (p : PxT) (hid : W.ownsRow (b + 1) 9 1 (.slice (some ⟨p.g, 0, none⟩) p.s.ids.length p.c) p.s.ids.length (p.s.ids.map Value.string)) (hp : ∀ q (hq : q < P.length), P[q].g ≠ p.g) (hb : b < W.heap.size)
    (ho : w4.ownsRow (b + 1) 79 7 v' (P.length + 1) (PV P ++ encP p)) (hg : W.grownBy w4 v.ownBlock) : SpAt w0 (w4.setCell ⟨b, 5, none⟩ v') b ka kl kc { x with list := x.list ++ [p.s] } v' (P ++ [p]) ∧ Tch St b W (w4.setCell ⟨b, 5, none⟩ v') := by
  have nb : ∀ k, k < W.heap.size → v.ownBlock ≠ some k → w4.heap[k]? = W.heap[k]? := fun k hk hn => hg.block k hk (fun e => hn e.symm)
  have vb : v.ownBlock ≠ some b := fun e => by have := (h.row.lt b e).1; omega
  have v9 : ∀ k C, W.heap[k]? = some (Obj.cells C 9 (0, 0)) → v.ownBlock ≠ some k := fun k C hk e => by
    obtain ⟨C', hC'⟩ := own_is h.row e
    rw [hC'] at hk
    cases hk
  have bx : RowIs w4 b (cfV ka kl kc x v) 76 := by
    have q := h.box
    unfold RowIs at *
    rw [nb b hb vb]; exact q
  have T1 : Tch St b W w4 := Tch.grown hg h.row (by omega) (by omega) (.inr (.inl rfl))
  have up : ∀ k, b + 1 ≤ k → (w4.setCell ⟨b, 5, none⟩ v').heap[k]? = w4.heap[k]? := fun k hk => heap_setCell_other w4 ⟨b, 5, none⟩ k v' (show k ≠ b by omega)
  have idk : ∀ (g n c : Nat) (l : List ByteArray), W.ownsRow (b + 1) 9 1 (.slice (some ⟨g, 0, none⟩) n c) n (l.map Value.string) → (w4.setCell ⟨b, 5, none⟩ v').ownsRow (b + 1) 9 1 (.slice (some ⟨g, 0, none⟩) n c) n (l.map Value.string) := fun g n c l hh => own_blk hh (fun k hk => by
    obtain ⟨C, hC⟩ := own_is hh hk
    have lt := hh.lt k hk
    rw [up k lt.1, nb k lt.2 (v9 k C hC)])
  refine ⟨⟨?_, ?_, ?_, ?_, ?_, ?_, h.lo⟩, T1.trans (Tch.setS bx (Nat.le_refl _) (.inl rfl) _ _)⟩
  · exact (bx.set 5 v')
  · show x.list ++ [p.s] = _
    rw [h.lst]; simp
  · have q : (w4.setCell ⟨b, 5, none⟩ v').ownsRow (b + 1) 79 7 v' (P.length + 1) (PV P ++ encP p) := own_blk ho (fun k hk => up k (ho.lt k hk).1)
    rw [PV_snoc, List.length_append]
    exact q
  · intro q hq
    by_cases e : q < P.length
    · rw [List.getElem_append_left e]
      exact idk _ _ _ _ (h.ids q e)
    · have e2 : q = P.length := by simp at hq; omega
      subst e2
      rw [List.getElem_append_right (Nat.le_refl _)]
      simp only [Nat.sub_self, List.getElem_cons_zero]
      exact idk _ _ _ _ hid
  · intro q r hq hr hn
    by_cases e : q < P.length
    · by_cases e2 : r < P.length
      · rw [List.getElem_append_left e, List.getElem_append_left e2]
        exact h.ap q r e e2 hn
      · have e3 : r = P.length := by simp at hr; omega
        subst e3
        rw [List.getElem_append_left e, List.getElem_append_right (Nat.le_refl _)]
        simpa using hp q e
    · have e3 : q = P.length := by simp at hq; omega
      subst e3
      have e2 : r < P.length := by simp at hr; omega
      rw [List.getElem_append_left e2, List.getElem_append_right (Nat.le_refl _)]
      simpa using (hp r e2).symm
  · have hlo := h.lo
    exact (h.bel.trans ⟨T1.bel.os, T1.bel.tape, T1.bel.output, T1.bel.size, fun k hk => T1.bel.block k (by omega)⟩).setCell hlo _
theorem info_lX : (Tryd.prog.info? 79).map (fun i => (i.zero, i.size, i.bytes)) = some (some (.agg #[.slice none 0 0, .string ⟨#[]⟩, .string ⟨#[]⟩, .int .i64 0, .int .i64 0, .int .i64 0, .bool false]), 7, 88) := by kernel_rfl
def CcL (w : World) (b : Nat) (t : Int) (u d : ByteArray) (Z : World) : Prop := (Z.cell? ⟨w.heap.size, 2, none⟩ = some (.string u) ∧ Z.cell? ⟨w.heap.size, 3, none⟩ = some (.string d)) ∧ Z.cell? ⟨b, 3, none⟩ = some (.int .i64 t)
theorem LgE.cc {w0 w : World} {b : Nat} {ka : Option Addr} {kl kc : Nat} {x : SsT} {v : Value} {P : List PxT} {k t : Int} {u d i : ByteArray} {lim : Nat} {L : List (Nat × Array Value × TypeId)} {Z : World} (h : LgE w0 w b ka kl kc x v P #[.int .i64 k, .int .i64 t, .string u, .string d, .string i] lim L Z) :
    (Z.cell? ⟨w.heap.size, 2, none⟩ = some (.string u) ∧ Z.cell? ⟨w.heap.size, 3, none⟩ = some (.string d)) ∧ Z.cell? ⟨b, 3, none⟩ = some (.int .i64 x.now) :=
  ⟨⟨h.re.at rfl, h.re.at rfl⟩, h.sp.box.at rfl⟩
end Go.Proofs.YtppkgcedkdeccaaDoor
/- Sessions: the specification's do: a login. -/
namespace Go.Proofs.YtppkgcedkdeccaaDoor
set_option linter.unusedSimpArgs false
set_option linter.unusedVariables false
set_option maxRecDepth 20000
open Go.RowKit Go.Maps

set_option maxHeartbeats 8000000 in
theorem do_login {w0 : World} {b : Nat} {ka : Option Addr} {kl kc : Nat} {x : SsT} {v : Value} {P : List PxT} (k t : Int) (u d i : ByteArray) (w : World) (h : SpAt w0 w b ka kl kc x v P) (hu : u.size ≤ maxLen) (hd : d.size ≤ maxLen) (hi : i.size ≤ maxLen) (hOK : OkS x) (hK : D.SlB w0 w0.heap.size ka kl x.key) (hKl : kl ≤ 1048576) (hf : fitE k t u d i = true) (hnt : x.now ≤ t) (hk1 : Hid (k = 1)) :
    Calls Tryd.prog 47 #[.pointer (some ⟨b, 0, none⟩), .agg #[.int .i64 k, .int .i64 t, .string u, .string d, .string i]] w (DoQ w0 w b ka kl kc ({ x with now := t, given := x.given + 1, list := x.list ++ [⟨[idOf x.key (x.given + 1)], u, d, 1, t, t, false⟩] }) (⟨0, idOf x.key (x.given + 1), u, 1⟩)) := by
  have HOL := h.lenP hOK
  have HOK : OkS { x with now := t } := ⟨fit_t hf, hOK.ln, hOK.gv, hOK.all, hOK.id, hOK.mo⟩
  have hbz := h.box.lt
  have nSE : ¬ St 34 := by unfold St; decide
  have nSR : ¬ St 31 := by unfold St; decide
  obtain ⟨W1, hW1⟩ : ∃ W, W = w.alloc (.cells #[.int .i64 k, .int .i64 t, .string u, .string d, .string i] 34) := ⟨_, rfl⟩
  obtain ⟨W2, hW2⟩ : ∃ W, W = W1.alloc (.cells #[.int .i64 0, .string ⟨#[]⟩, .string ⟨#[]⟩, .int .i64 0] 31) := ⟨_, rfl⟩
  have z1 : W1.heap.size = w.heap.size + 1 := by rw [hW1]; simp
  have b1 : Below w.heap.size w W1 := by rw [hW1]; exact bAl (Below.refl _ _) _
  have b2 : Below W1.heap.size W1 W2 := by rw [hW2]; exact bAl (Below.refl _ _) _
  have RE := hide ((show RowIs W1 w.heap.size #[.int .i64 k, .int .i64 t, .string u, .string d, .string i] 34 by rw [hW1]; exact RowIs.new _ _ _).keep b2)
  have RP := hide (show RowIs W2 (w.heap.size + 1) rp0 31 by rw [hW2, ← z1]; exact RowIs.new _ _ _)
  have H := hide ((h.keep b1).keep b2)
  have TC := hide (h.tch (bTr b1 b2))
  rw [hW1] at hW2
  have HW2 := hide hW2.symm
  have HLO := hide h.lo
  clear hW1 hW2 z1 b1 b2 h
  have qb := hide (sBad_any k t u d i W2 hu hd)
  rw [hf] at qb
  simp only [Bool.not_true, Bool.not_false] at qb
  have e0 := (unhide RE).at (o := 0) (v := .int .i64 k) rfl
  have e1 := (unhide RE).at (o := 1) (v := .int .i64 t) rfl
  have e2 := (unhide RE).at (o := 2) (v := .string u) rfl
  have e3 := (unhide RE).at (o := 3) (v := .string d) rfl
  have e4 := (unhide RE).at (o := 4) (v := .string i) rfl
  have ez := (unhide RE).lt
  go_enter Tryd.func47, Tryd.ntmps47
  go_upto_region 1 with fail
  refine wp_world (unhide HW2) ?_
  clear HW2
  go_wp2_with fail
  refine (unhide qb).mono ?_
  rintro e w3 ⟨rfl, hb3⟩
  replace RE := hide ((unhide RE).keep hb3)
  replace RP := hide ((unhide RP).keep hb3)
  replace TC := hide ((unhide TC).trans ((unhide H).tch hb3))
  replace H := hide ((unhide H).keep hb3)
  clear hb3
  clear e0 e1 e2 e3 e4 ez
  clear qb
  have c3 := (unhide H).box.at (o := 3) (v := .int .i64 x.now) rfl
  have cz := (unhide H).box.lt
  have nt : ¬ t < x.now := by omega
  have e0 := (unhide RE).at (o := 0) (v := .int .i64 k) rfl
  have e1 := (unhide RE).at (o := 1) (v := .int .i64 t) rfl
  have e2 := (unhide RE).at (o := 2) (v := .string u) rfl
  have e3 := (unhide RE).at (o := 3) (v := .string d) rfl
  have e4 := (unhide RE).at (o := 4) (v := .string i) rfl
  have ez := (unhide RE).lt
  go_upto_region 3 with fail
  go_region
  go_upto_region 5 with fail
  obtain ⟨w4, hw4⟩ : ∃ W, W = w3.drew := ⟨_, rfl⟩
  refine wp_world hw4.symm ?_
  have hb4 : Below w3.heap.size w3 w4 := by rw [hw4]; exact (Below.refl _ _).drew
  clear c3 cz nt hw4
  clear e0 e1 e2 e3 e4 ez
  replace RE := hide ((unhide RE).keep hb4)
  replace RP := hide ((unhide RP).keep hb4)
  replace TC := hide ((unhide TC).trans ((unhide H).tch hb4))
  replace H := hide ((unhide H).keep hb4)
  clear hb4
  have e0 := (unhide RE).at (o := 0) (v := .int .i64 k) rfl
  have e1 := (unhide RE).at (o := 1) (v := .int .i64 t) rfl
  have e2 := (unhide RE).at (o := 2) (v := .string u) rfl
  have e3 := (unhide RE).at (o := 3) (v := .string d) rfl
  have e4 := (unhide RE).at (o := 4) (v := .string i) rfl
  have ez := (unhide RE).lt
  have c3 := (unhide H).box.at (o := 3) (v := .int .i64 x.now) rfl
  have f3 := (unhide H).box.froz 3
  have cz := (unhide H).box.lt
  obtain ⟨w5, hw5⟩ : ∃ W, W = w4.setCell ⟨b, 3, none⟩ (.int .i64 t) := ⟨_, rfl⟩
  have HW5 := hide hw5.symm
  have z5 : w5.heap.size = w4.heap.size := by rw [hw5]; simp [World.setCell]
  have nb1 : w.heap.size ≠ b := by omega
  have nb2 : w.heap.size + 1 ≠ b := by omega
  have RE' := hide (show RowIs w5 w.heap.size _ 34 by rw [hw5]; exact (unhide RE).setOther _ nb1)
  have RP' := hide (show RowIs w5 (w.heap.size + 1) rp0 31 by rw [hw5]; exact (unhide RP).setOther _ nb2)
  have TC' := hide (show Tch St b w w5 by rw [hw5]; exact (unhide TC).trans ((unhide H).tchB _ _))
  have H' := hide (show SpAt w0 w5 b ka kl kc { x with now := t } v P by rw [hw5]; exact (unhide H).setBox 3 _ _ _ rfl rfl rfl)
  clear hw5
  go_upto_region 6 with fail
  refine wp_world (unhide HW5) ?_
  clear HW5 RE RP TC H c3 f3 cz
  clear e0 e1 e2 e3 e4 ez
  have RE := RE'
  have RP := RP'
  have TC := TC'
  have H := H'
  clear RE' RP' TC' H' z5 nb1 nb2
  have nk1 : (k == 1) = true := by simp [unhide hk1]
  have e0 := (unhide RE).at (o := 0) (v := .int .i64 k) rfl
  have e1 := (unhide RE).at (o := 1) (v := .int .i64 t) rfl
  have e2 := (unhide RE).at (o := 2) (v := .string u) rfl
  have e3 := (unhide RE).at (o := 3) (v := .string d) rfl
  have e4 := (unhide RE).at (o := 4) (v := .string i) rfl
  have ez := (unhide RE).lt
  have E0 := hide (LgE.start (unhide H) (unhide TC) (unhide RE) (unhide RP) hbz)
  clear H TC RE RP
  obtain ⟨I, hI⟩ : ∃ q, q = idOf x.key (x.given + 1) := ⟨_, rfl⟩
  have HI := hide hI
  have qid := hide (show ∀ (L : List (Nat × Array Value × TypeId)) (Z : World), LgE w0 w b ka kl kc { x with now := t } v P #[.int .i64 k, .int .i64 t, .string u, .string d, .string i] w5.heap.size L Z → Calls Tryd.prog 55 #[.pointer (some ⟨b, 0, none⟩)] Z (fun e w' => e = .returned (.string (idOf x.key (x.given + 1))) ∧ LgE w0 w b ka kl kc { x with now := t, given := x.given + 1 } v P #[.int .i64 k, .int .i64 t, .string u, .string d, .string i] w5.heap.size L w') from fun L Z E => id_ev E hK hKl hOK.gv)
  rw [← hI] at qid ⊢
  clear hI
  go_upto_region 7 with fail
  go_cut [5] from 11 (fun bx wx => ∃ (n g : Nat), bx = .pointer (some ⟨n, 0, none⟩) ∧ n ≠ g ∧ Hid (LgE w0 w b ka kl kc { x with now := t, given := x.given + 1 } v P #[.int .i64 k, .int .i64 t, .string u, .string d, .string i] w5.heap.size [(n, #[.slice (some ⟨g, 0, none⟩) 1 1, .string u, .string d, .int .i64 1, .int .i64 t, .int .i64 t, .bool false], 79), (g, #[.string I], 9)] wx))
  case first =>
    clear e0 e1 e2 e3 e4 ez
    have E1 := hide (unhide E0).dr
    go_region_held3 (fun Z => (Z.cell? ⟨w.heap.size, 2, none⟩ = some (.string u) ∧ Z.cell? ⟨w.heap.size, 3, none⟩ = some (.string d)) ∧ Z.cell? ⟨b, 3, none⟩ = some (.int .i64 t))
      (first
        | with_reducible exact LgE.cc (unhide E1)
        | with_reducible exact LgE.cc (((unhide E0).alB _ _).dr)
        | with_reducible exact LgE.cc (unhide E2)
        | with_reducible exact LgE.cc ((unhide E2).alB _ _)
        | with_reducible exact LgE.cc (((unhide E2).alB _ _).alB _ _)
        | with_reducible exact LgE.cc (unhide E3))
      (first
        | (go_at_call 55; (first | with_reducible refine (unhide qid _ _ (unhide E1)).mono ?_ | with_reducible refine (unhide qid _ _ (((unhide E0).alB _ _).dr)).mono ?_); rintro e w6 ⟨rfl, hE⟩; have E2 := hide hE; clear hE; (try (have HB := ((unhide E2).rows _ (List.mem_cons_self ..)).1; have s0 := HB.at (o := 0) rfl; have s1 := HB.at (o := 1) rfl; have s2 := HB.at (o := 2) rfl; have s3 := HB.at (o := 3) rfl; have s4 := HB.at (o := 4) rfl; have s5 := HB.at (o := 5) rfl; have s6 := HB.at (o := 6) rfl; have t0 := HB.froz 0; have t1 := HB.froz 1; have t2 := HB.froz 2; have t3 := HB.froz 3; have t4 := HB.froz 4; have t5 := HB.froz 5; have t6 := HB.froz 6; have sz := HB.lt; have E3 := hide (show LgE w0 w b ka kl kc { x with now := t, given := x.given + 1 } v P #[.int .i64 k, .int .i64 t, .string u, .string d, .string i] w5.heap.size [(w6.heap.size, #[.string I], 9), (w5.heap.size, #[.slice (some ⟨w6.heap.size, 0, none⟩) 1 1, .string u, .string d, .int .i64 1, .int .i64 t, .int .i64 t, .bool false], 79)] _ from ((((((((unhide E2).put (by simp) 0 (.slice (some ⟨w6.heap.size, 0, none⟩) 1 1)).put (by simp) 1 (.string u)).put (by simp) 2 (.string d)).put (by simp) 3 (.int .i64 1)).put (by simp) 4 (.int .i64 t)).put (by simp) 5 (.int .i64 t)).put (by simp) 6 (.bool false)).alN #[.string I] 9 w6.heap.size (by simp [World.setCell]))))))
    all_goals
      iterate 40 (try clear hHeld)
      (try go_wp2_with fail)
      go_meet
      case rel =>
        first
          | with_reducible exact ⟨_, _, rfl, (by omega), hide ((unhide E3).swap)⟩
          | with_reducible exact ⟨_, _, rfl, (by first | omega | (simp; done) | (simp; omega)), hide ((((unhide E2).alN _ _ _ rfl).alN _ _ _ (by simp)).swap)⟩
          | with_reducible exact ⟨_, _, rfl, (by first | omega | (simp; done) | (simp; omega)), hide (((unhide E2).alN _ _ _ rfl).alN _ _ _ (by simp))⟩
  obtain ⟨n, g, rfl, hng, hE⟩ := hcut
  clear E0 qid e0 e1 e2 e3 e4 ez
  obtain ⟨va, vc, rfl, hform⟩ := (unhide hE).sp.slice
  clear hform
  obtain ⟨i0, hi0, hz⟩ := Option.map_eq_some_iff.1 info_lX
  simp only [Prod.mk.injEq] at hz
  obtain ⟨hz0, hz1, hz2⟩ := hz
  obtain ⟨NX, hNX⟩ : ∃ q : Array Value, q = #[.slice (some ⟨g, 0, none⟩) 1 1, .string u, .string d, .int .i64 1, .int .i64 t, .int .i64 t, .bool false] := ⟨_, rfl⟩
  have RX := hide ((unhide hE).rows _ (List.mem_cons_self ..)).1
  have RI := hide ((unhide hE).rows (g, #[.string I], 9) (by simp)).1
  have nlo := ((unhide hE).rows _ (List.mem_cons_self ..)).2
  have glo := ((unhide hE).rows (g, #[.string I], 9) (by simp)).2
  have lm := (unhide hE).lm
  dsimp only at RX RI nlo glo
  have wlo : b + 1 ≤ w5.heap.size := by omega
  have c5 := (unhide hE).sp.box.at (o := 5) (v := .slice va P.length vc) rfl
  have f5 := (unhide hE).sp.box.froz 5
  have cz := (unhide hE).sp.box.lt
  have n0 := (unhide RX).at (o := 0) (v := .slice (some ⟨g, 0, none⟩) 1 1) rfl
  have n1 := (unhide RX).at (o := 1) (v := .string u) rfl
  have n2 := (unhide RX).at (o := 2) (v := .string d) rfl
  have n3 := (unhide RX).at (o := 3) (v := .int .i64 1) rfl
  have n4 := (unhide RX).at (o := 4) (v := .int .i64 t) rfl
  have n5 := (unhide RX).at (o := 5) (v := .int .i64 t) rfl
  have n6 := (unhide RX).at (o := 6) (v := .bool false) rfl
  have nz := (unhide RX).lt
  have t2 := hide (cells_new wc.drew #[.slice (some ⟨g, 0, none⟩) 1 1, .string u, .string d, .int .i64 1, .int .i64 t, .int .i64 t, .bool false] 79 wc.heap.size rfl)
  have vne : ∀ e, (Value.slice va P.length vc).ownBlock = some e → e < w5.heap.size := (unhide hE).sv
  have VNE := hide vne
  have vb : ∀ e, (Value.slice va P.length vc).ownBlock = some e → b + 1 ≤ e := fun e he => ((unhide hE).sp.row.lt e he).1
  have VB := hide vb
  clear vne vb hNX NX
  go_upto_region 8 with fail
  go_region_law
    (first
      | (refine step_append_lies _ (by rfl) _ _ _ (by rfl) (b + 1) 79 i0 _ 7 88 Tryd.underlying74 hi0 hz0 hz1 hz2 rfl (by omega) (.slice va P.length vc) P.length (PV P) (by rfl) ((unhide hE).sp.row.drew.alloc _) ⟨wc.heap.size, 0, none⟩ 1 1 [.slice (some ⟨g, 0, none⟩) 1 1, .string u, .string d, .int .i64 1, .int .i64 t, .int .i64 t, .bool false] (by rfl) (by rfl) (unhide t2) (fun x hx => by simp at hx; rcases hx with rfl | rfl | rfl | rfl | rfl | rfl | rfl <;> rfl) (by omega) (by unfold maxLen; omega) (by omega) (by simp; omega) (wc.heap.size + 1) (by simp) ?_; intro g4 cv4 w4 hown4 hgrow4 hat4 hlt4; have R4 := hide (row_grown ((unhide hE).sp.box.keep (bAl (Below.refl _ _) (.cells #[.slice (some ⟨g, 0, none⟩) 1 1, .string u, .string d, .int .i64 1, .int .i64 t, .int .i64 t, .bool false] 79)).drew) hgrow4 (fun e => by have := unhide VB _ e.symm; omega)); have d5 := (unhide R4).at (o := 5) (v := .slice va P.length vc) rfl; have h5 := (unhide R4).froz 5; have hz4 := (unhide R4).lt; have OW := hide hown4; have GR := hide hgrow4; clear hown4 hgrow4 hat4))
  all_goals
    have bd : Below wc.heap.size wc ((wc.alloc (.cells #[.slice (some ⟨g, 0, none⟩) 1 1, .string u, .string d, .int .i64 1, .int .i64 t, .int .i64 t, .bool false] 79)).drew) := (bAl (Below.refl _ _) _).drew
    have RIk := (unhide RI).keep bd
    have SN := SpAt.snoc (W := (wc.alloc (.cells #[.slice (some ⟨g, 0, none⟩) 1 1, .string u, .string d, .int .i64 1, .int .i64 t, .int .i64 t, .bool false] 79)).drew) ((unhide hE).sp.keep bd) ⟨⟨[I], u, d, 1, t, t, false⟩, g, 1⟩ ⟨by simp, .inr ⟨g, 1, #[.string I], rfl, (by show b + 1 ≤ g; omega), RIk, Nat.le_refl _, (by unfold maxLen; omega), rfl, by simp⟩⟩ (fun q hq => by have := (unhide hE).sg q hq; show P[q].g ≠ g; omega) (by have := bd.size; omega) (unhide OW) (unhide GR)
    obtain ⟨w9, hw9⟩ : ∃ W, W = w4.setCell ⟨b, 5, none⟩ (.slice (some ⟨g4, 0, none⟩) (P.length + 1) cv4) := ⟨_, rfl⟩
    have HW := hide hw9.symm
    rw [← hw9] at SN
    have gn : ∀ y, w5.heap.size ≤ y → some y ≠ (Value.slice va P.length vc).ownBlock := fun y hy e => by have := unhide VNE y e.symm; omega
    have RX9 := hide (show RowIs w9 n _ 79 by rw [hw9]; exact (row_grown ((unhide RX).keep bd) (unhide GR) (gn n nlo)).setOther _ (by omega))
    have RI9 := hide (show RowIs w9 g _ 9 by rw [hw9]; exact (row_grown RIk (unhide GR) (gn g glo)).setOther _ (by omega))
    have H := hide SN.1
    have RE := hide (SN.2.row ((unhide hE).re.keep bd) nSE)
    have RP := hide (SN.2.row ((unhide hE).rp.keep bd) nSR)
    have TC := hide (((unhide hE).tc.trans ((unhide hE).sp.tch bd)).trans SN.2)
    clear SN RIk gn hw9 bd
    go_upto_region 9 with fail
    refine wp_world (unhide HW) ?_
    clear HW c5 f5 cz n0 n1 n2 n3 n4 n5 n6 nz t2 d5 h5 hz4 OW GR R4 RX RI hE
    have n0 := (unhide RX9).at (o := 0) (v := .slice (some ⟨g, 0, none⟩) 1 1) rfl
    have n1 := (unhide RX9).at (o := 1) (v := .string u) rfl
    have n2 := (unhide RX9).at (o := 2) (v := .string d) rfl
    have n3 := (unhide RX9).at (o := 3) (v := .int .i64 1) rfl
    have n4 := (unhide RX9).at (o := 4) (v := .int .i64 t) rfl
    have n5 := (unhide RX9).at (o := 5) (v := .int .i64 t) rfl
    have n6 := (unhide RX9).at (o := 6) (v := .bool false) rfl
    have nz := (unhide RX9).lt
    have qt := hide (sTold_any g 1 1 ⟨[I], u, d, 1, t, t, false⟩ w9 rfl (by simp) (by omega) (unhide RI9).lt ((unhide RI9).at rfl))
    unfold xV at qt
    go_wp2_with fail
    refine (unhide qt).mono ?_
    rintro e w8 ⟨rfl, hb8⟩
    clear qt n0 n1 n2 n3 n4 n5 n6 nz
    unfold encR toldR
    simp only [lastI, List.getLastD]
    replace RE := hide ((unhide RE).keep hb8)
    replace RP := hide ((unhide RP).keep hb8)
    replace TC := hide ((unhide TC).trans ((unhide H).tch hb8))
    replace H := hide ((unhide H).keep hb8)
    clear hb8
    have r0 := (unhide RP).at (o := 0) (v := .int .i64 0) rfl
    have f0 := (unhide RP).froz 0
    have r1 := (unhide RP).at (o := 1) (v := .string ⟨#[]⟩) rfl
    have f1 := (unhide RP).froz 1
    have r2 := (unhide RP).at (o := 2) (v := .string ⟨#[]⟩) rfl
    have f2 := (unhide RP).froz 2
    have r3 := (unhide RP).at (o := 3) (v := .int .i64 0) rfl
    have f3 := (unhide RP).froz 3
    have rz := (unhide RP).lt
    go_wp2_with fail
    try simp only [Exit.inBlock, Exit.then]
    have hI2 := unhide HI
    subst hI2
    have qe := fun (n f3 : Int) (f1 f2 : ByteArray) => SpAt.end4 (n := n) (f1 := f1) (f2 := f2) (f3 := f3) (unhide H) (unhide RP) (unhide TC) hbz
    exact bodyPost_ret (ret_reply (fn := Tryd.f47) rfl _ _ (w.heap.size + 1) (encR ⟨_, _, _, _⟩) rfl rfl (qe _ _ _ _).1) rfl ⟨rfl, (qe _ _ _ _).2⟩

end Go.Proofs.YtppkgcedkdeccaaDoor
/- Sessions: the specification's do: a raise. -/
namespace Go.Proofs.YtppkgcedkdeccaaDoor
set_option linter.unusedSimpArgs false
set_option linter.unusedVariables false
set_option maxRecDepth 20000
open Go.RowKit Go.Maps

def EntY (N : FuncId) : Prop := ∀ (args : Array Value) (w : World), (callFunc N args).run Tryd.prog w = .ok (.enter N args) w
theorem entY_of {N : FuncId} {fn : Func} (hf : Tryd.prog.funcs[N]? = some fn) (hname : (fn.name == "runtime.NumGoroutine") = false) (hb : fn.body.isNone = false) : EntY N := by
  intro args w
  have h1 : fn.name ≠ "runtime.NumGoroutine" := by simpa using hname
  have h2 : fn.body ≠ none := fun e => by rw [e] at hb; cases hb
  simp [callFunc, hf, h1, h2]
theorem step_call1 (w : World) {ops : Array Oper} {o : Oper} {a : Act} {K : Act → World → Prop} {Q : Exit → Act → World → Prop} {E : Prop} (hgd : o.guard = none) (f : FuncId) (x0 : Operand) (ts : Array TypeId)
    (ho : o.op = .call { callee := .value (.func f), args := #[x0], argTypes := ts }) (v0 : Value) (h0 : a.eval x0 = v0) (hen : EntY f) {R : Ending → World → Prop} (hc : Calls Tryd.prog f #[v0] w R)
    (h : ∀ e w', R e w' → ∃ v, e = .returned v ∧ K (a.put o.dst v) w') :
    if Region.wanted o (yielded ops a.tmps) = true then Oper.wp Tryd.prog o a w K Q else E := by
  have hw : Region.wanted o (yielded ops a.tmps) = true := by simp [Region.wanted, hgd]
  rw [if_pos hw]
  have hr : (execOp a.eval o).run Tryd.prog w = .ok (.enter f #[v0]) w := by
    have he := hen #[v0] w
    have hf : a.eval (.func f) = .func (.func f) #[] #[] := rfl
    unfold execOp
    simp only [ho, resolve, invoke, Deferred.ofValue, Sem.run_bind, Sem.run_pure, Result.andThen_ok, List.map_toArray, List.map_cons, List.map_nil, h0, hf]
    have e2 : (#[v0] ++ #[] : Array Value) = #[v0] := by simp
    first | exact he | (rw [e2]; exact he) | (simp; exact he)
  unfold Oper.wp
  rw [hr, Oper.upon_enter]
  refine hc.mono ?_
  intro e w' hR
  obtain ⟨v, rfl, hK⟩ := h e w' hR
  exact hK
theorem entId : EntY 55 := entY_of (fn := Tryd.f55) Tryd.func55 rfl rfl
theorem info_strR : (Tryd.prog.info? 9).map (fun i => (i.zero, i.size, i.bytes)) = some (some (.string ⟨#[]⟩), 1, 16) := by kernel_rfl
theorem l15L_any (a b : Int) (w : World) : Calls Tryd.prog 46 #[.int .i64 a, .int .i64 b] w fun e w' => e = .returned (.int .i64 (min a b)) ∧ w = w' := by
  go_enter Tryd.func46, Tryd.ntmps46
  go_wp2
  all_goals go_ret
  all_goals exact ⟨congrArg (fun x => Ending.returned (.int .i64 x)) (by omega), rfl⟩
def raised (s : SxT) (I : ByteArray) : SxT := { s with ids := s.ids ++ [I] }
theorem SpAt.raise {w0 W w4 : World} {b : Nat} {ka : Option Addr} {kl kc : Nat} {x : SsT} {P : List PxT} {g cap : Nat} (h : SpAt w0 W b ka kl kc x (.slice (some ⟨g, 0, none⟩) P.length cap) P) {j : Nat} (hj : j < P.length) (I : ByteArray) (g4 c4 n : Nat) (hn : n = P[j].s.ids.length)
    (ho : w4.ownsRow (b + 1) 9 1 (.slice (some ⟨g4, 0, none⟩) (n + 1) c4) (n + 1) (P[j].s.ids.map Value.string ++ [.string I])) (hg : W.grownBy w4 (some P[j].g)) (hat : g4 = P[j].g ∨ W.heap.size ≤ g4) :
    SpAt w0 (w4.setCell ⟨g, j * 7, none⟩ (.slice (some ⟨g4, 0, none⟩) (n + 1) c4)) b ka kl kc { x with list := x.list.set j (raised P[j].s I) } (.slice (some ⟨g, 0, none⟩) P.length cap) (P.set j ⟨raised P[j].s I, g4, c4⟩)
    ∧ Tch St b W (w4.setCell ⟨g, j * 7, none⟩ (.slice (some ⟨g4, 0, none⟩) (n + 1) c4)) := by
  have hb := h.box.lt
  have lj := (h.ids j hj).lt P[j].g rfl
  have lg := h.row.lt g rfl
  obtain ⟨CJ, hCJ⟩ := own_is (h.ids j hj) (g := P[j].g) rfl
  obtain ⟨CG, hCG⟩ := own_is h.row (g := g) rfl
  have gj : g ≠ P[j].g := fun e => by rw [e, hCJ] at hCG; cases hCG
  have nb : ∀ k, k < W.heap.size → k ≠ P[j].g → w4.heap[k]? = W.heap[k]? := fun k hk hn => hg.block k hk (fun e => hn (Option.some.inj e))
  have g4g : g4 ≠ g := by
    rcases hat with e | e
    · rw [e]; exact fun q => gj q.symm
    · omega
  have ty : ∀ k, k ≠ g → (w4.setCell ⟨g, j * 7, none⟩ (.slice (some ⟨g4, 0, none⟩) (n + 1) c4)).heap[k]? = w4.heap[k]? := fun k hk => heap_setCell_other w4 ⟨g, j * 7, none⟩ k _ hk
  have row4 : w4.ownsRow (b + 1) 79 7 (.slice (some ⟨g, 0, none⟩) P.length cap) P.length (PV P) := own_blk h.row (fun k hk => by cases hk; exact nb g lg.2 gj)
  have st := (row4.stored (j * 7) (.slice (some ⟨g4, 0, none⟩) (n + 1) c4)).1
  have EX : encP ⟨raised P[j].s I, g4, c4⟩ = (encP P[j]).set 0 (.slice (some ⟨g4, 0, none⟩) (n + 1) c4) := by
    unfold encP raised
    simp [hn]
  have pv := PV_set P j hj 0 (.slice (some ⟨g4, 0, none⟩) (n + 1) c4) ⟨raised P[j].s I, g4, c4⟩ (by omega) EX
  rw [Nat.add_zero] at pv
  rw [pv] at st
  have T1 : Tch St b W w4 := Tch.grown (v := .slice (some ⟨P[j].g, 0, none⟩) P[j].s.ids.length P[j].c) hg (h.ids j hj) (by omega) (by omega) (.inr (.inr rfl))
  have T2 : Tch St b w4 (w4.setCell ⟨g, j * 7, none⟩ (.slice (some ⟨g4, 0, none⟩) (n + 1) c4)) := by
    obtain ⟨C, hC⟩ := own_is row4 (g := g) rfl
    exact Tch.setS (show RowIs w4 g C 79 from hC) (by omega) (.inr (.inl rfl)) _ _
  have gg : ∀ k (hk : k < P.length), (P.set j ⟨raised P[j].s I, g4, c4⟩)[k]'(by simpa using hk) = if k = j then ⟨raised P[j].s I, g4, c4⟩ else P[k] := by
    intro k hk
    rw [List.getElem_set]
    by_cases e : j = k
    · subst e; simp
    · rw [if_neg e, if_neg (fun q => e q.symm)]
  refine ⟨⟨?_, ?_, by simpa using st, ?_, ?_, ?_, h.lo⟩, T1.trans T2⟩
  · have bx : RowIs w4 b (cfV ka kl kc x (.slice (some ⟨g, 0, none⟩) P.length cap)) 76 := by
      have q := h.box
      unfold RowIs at *
      rw [nb b hb (by omega)]; exact q
    exact bx.setOther _ (by omega)
  · show x.list.set j _ = _
    rw [h.lst, List.map_set]
  · intro k hk
    have hk' : k < P.length := by simpa using hk
    rw [gg k hk']
    by_cases e : k = j
    · subst e
      rw [if_pos rfl]
      have q : (w4.setCell ⟨g, k * 7, none⟩ (.slice (some ⟨g4, 0, none⟩) (n + 1) c4)).ownsRow (b + 1) 9 1 (.slice (some ⟨g4, 0, none⟩) (n + 1) c4) (n + 1) (P[k].s.ids.map Value.string ++ [.string I]) := own_blk ho (fun r hr => by cases hr; exact ty g4 g4g)
      have e2 : (raised P[k].s I).ids.length = n + 1 := by unfold raised; simp [hn]
      have e3 : (raised P[k].s I).ids.map Value.string = P[k].s.ids.map Value.string ++ [.string I] := by unfold raised; simp
      dsimp only
      rw [e2, e3]
      exact q
    · rw [if_neg e]
      have lk := (h.ids k hk').lt P[k].g rfl
      obtain ⟨CK, hCK⟩ := own_is (h.ids k hk') (g := P[k].g) rfl
      exact own_blk (h.ids k hk') (fun r hr => by
        cases hr
        rw [ty _ (fun q => by have q2 := hCK; have q3 : P[k].g = g := q; rw [q3, hCG] at q2; cases q2), nb _ lk.2 (h.ap k j hk' hj e)])
  · intro k l hk hl hkl
    have hk' : k < P.length := by simpa using hk
    have hl' : l < P.length := by simpa using hl
    have lk := (h.ids k hk').lt P[k].g rfl
    have ll := (h.ids l hl').lt P[l].g rfl
    rw [gg k hk', gg l hl']
    by_cases e : k = j
    · subst e
      rw [if_pos rfl, if_neg (fun q => hkl q.symm)]
      rcases hat with q | q
      · dsimp only; rw [q]; exact h.ap k l hk' hl' hkl
      · dsimp only; omega
    · rw [if_neg e]
      by_cases e2 : l = j
      · subst e2
        rw [if_pos rfl]
        rcases hat with q | q
        · dsimp only; rw [q]; exact h.ap k l hk' hl' hkl
        · dsimp only; omega
      · rw [if_neg e2]
        exact h.ap k l hk' hl' hkl
  · have hlo := h.lo
    exact (h.bel.trans ⟨T1.bel.os, T1.bel.tape, T1.bel.output, T1.bel.size, fun k hk => T1.bel.block k (by omega)⟩).setCell (by show w0.heap.size ≤ g; omega) _
end Go.Proofs.YtppkgcedkdeccaaDoor
