/- LPa, LPb, LPc, one behind the other. -/
import Derived.Test.YtppkgcedkdeccaaDoorJ24
import Derived.Test.YtppkgcedkdeccaaDoorJ8
import Derived.BigQuiet
import Derived.Conc.EventLaws
import Derived.Conc.SmallLaws
import Derived.Laws.OwnMore
import Derived.Laws.AppendOwn
/- Sessions: the small functions of the program. -/
namespace Go.Proofs.YtppkgcedkdeccaaDoor
set_option linter.unusedSimpArgs false
set_option linter.unusedVariables false
set_option maxRecDepth 20000
open Go.RowKit Go.Maps


structure BlT where
  sb : Nat
  en : Nat
  ev : Nat
  ce : Bool
  cd : Bool
def sC (s : SxT) (q : BlT) : Array Value := #[.string (lastI s.ids), .string s.user, .string s.device, .int .i64 s.level, .int .i64 s.login, .int .i64 s.last, .chan (some q.en), .chan (some q.ev)]
def vC (ka : Option Addr) (kl kc : Nat) (x : SsT) (mo me : Nat) (ov : Value) : Array Value := #[.slice ka kl kc, .int .i64 x.idle, .int .i64 x.most, .int .i64 x.now, .int .i64 (x.given : Int), .map (some mo), .map (some me), ov]
theorem bet_any (a b c : Int) (w : World) : Calls Tryd.prog 56 #[.int .i64 a, .int .i64 b, .int .i64 c] w fun e w' => e = .returned (.bool (decide (a ≤ b ∧ b ≤ c))) ∧ w = w' := D.between_any a b c w
set_option maxHeartbeats 2000000 in
theorem iGoodC_any (ka : Option Addr) (kl kc : Nat) (idle most : Int) (w : World) : Calls Tryd.prog 50 #[.agg #[.slice ka kl kc, .int .i64 idle, .int .i64 most]] w fun e w' => Said e (decide (GC kl idle most)) w w' := by
  have q1 := hide (bet_any 1 idle 1000000)
  have q2 := hide (bet_any 1 most 1000000)
  cases d1 : decide (1 ≤ idle ∧ idle ≤ 1000000) <;> cases d2 : decide (1 ≤ most ∧ most ≤ 1000000)
  all_goals
    rw [d1] at q1
    rw [d2] at q2
    have D1 := hide d1
    have D2 := hide d2
    clear d1 d2
    go_enter Tryd.func50, Tryd.ntmps50
    go_wp2_with (go_at_call 56; (first | (with_reducible refine (unhide q1 _).mono ?_) | (with_reducible refine (unhide q2 _).mono ?_)); rintro e w1 ⟨rfl, rfl⟩)
  all_goals go_ret
  all_goals
    refine ⟨congrArg (fun b => Ending.returned (.bool b)) ?_, bAl (Below.refl _ _) _⟩
    have D1 := unhide D1
    have D2 := unhide D2
    simp only [decide_eq_true_eq, decide_eq_false_iff_not] at D1 D2
    rw [Bool.eq_iff_iff]
    simp only [decide_eq_true_eq, Bool.false_eq_true, false_iff, true_iff]
    unfold GC
    omega
set_option maxHeartbeats 4000000 in
theorem iTold_any (s : SxT) (q : BlT) (w : World) (hr : RowIs w q.sb (sC s q) 103) :
    Calls Tryd.prog 31 #[.pointer (some ⟨q.sb, 0, none⟩)] w fun e w' => e = .returned (.agg (encR (toldR s))) ∧ Below w.heap.size w w' := by
  have eT := hide (show encR (toldR s) = #[.int .i64 0, .string (lastI s.ids), .string s.user, .int .i64 s.level] from rfl)
  obtain ⟨W2, hW2⟩ : ∃ W, W = w.alloc (.cells #[.int .i64 0, .string ⟨#[]⟩, .string ⟨#[]⟩, .int .i64 0] 31) := ⟨_, rfl⟩
  have b2 : Below w.heap.size w W2 := by rw [hW2]; exact bAl (Below.refl _ _) _
  have R2 := show RowIs W2 w.heap.size #[.int .i64 0, .string ⟨#[]⟩, .string ⟨#[]⟩, .int .i64 0] 31 by rw [hW2]; exact RowIs.new _ _ _
  have R1 := hr.keep b2
  have q0 := R1.at (o := 0) (v := .string (lastI s.ids)) rfl
  have q1 := R1.at (o := 1) (v := .string s.user) rfl
  have q3 := R1.at (o := 3) (v := .int .i64 s.level) rfl
  have qz := R1.lt
  have HR := hide R2
  have r0 := R2.at (o := 0) (v := .int .i64 0) rfl
  have r1 := R2.at (o := 1) (v := .string ⟨#[]⟩) rfl
  have r2 := R2.at (o := 2) (v := .string ⟨#[]⟩) rfl
  have r3 := R2.at (o := 3) (v := .int .i64 0) rfl
  have f0 := R2.froz 0
  have f1 := R2.froz 1
  have f2 := R2.froz 2
  have f3 := R2.froz 3
  have R2z := R2.lt
  have HB := hide b2
  have HW := hide hW2.symm
  clear hW2 b2 R2 R1 hr
  generalize encR (toldR s) = T at *
  generalize lastI s.ids = L at *
  generalize s.user = U at *
  generalize s.level = V at *
  go_enter Tryd.func31, Tryd.ntmps31
  go_upto_region 1 with fail
  refine wp_world (unhide HW) ?_
  go_region
  all_goals
    go_wp2_with fail
    try simp only [Exit.inBlock, Exit.then]
    exact bodyPost_ret (ret_reply rfl _ _ (w.heap.size) #[.int .i64 0, .string L, .string U, .int .i64 V] rfl rfl (((((unhide HR).set 0 _).set 1 _).set 2 _).set 3 _)) rfl ⟨by rw [unhide eT], (((((unhide HB).setCell (Nat.le_refl _) _).setCell (Nat.le_refl _) _).setCell (Nat.le_refl _) _).setCell (Nat.le_refl _) _).drew⟩
set_option maxHeartbeats 4000000 in
theorem iOver_any (b mo me : Nat) (ka : Option Addr) (kl kc : Nat) (x : SsT) (s : SxT) (q : BlT) (ov : Value) (t : Int) (w : World) (hv : RowIs w b (vC ka kl kc x mo me ov) 69) (hr : RowIs w q.sb (sC s q) 103) (h1 : 0 ≤ s.login ∧ s.login ≤ 100000000000) (h2 : 0 ≤ s.last ∧ s.last ≤ 100000000000) (h3 : 0 ≤ x.idle ∧ x.idle ≤ 1000000) (h4 : 0 ≤ x.most ∧ x.most ≤ 1000000) :
    Calls Tryd.prog 30 #[.pointer (some ⟨b, 0, none⟩), .pointer (some ⟨q.sb, 0, none⟩), .int .i64 t] w fun e w' => Said e (overS x s t) w w' := by
  have ne : Nonempty (Kept w) := ⟨⟨w, Below.refl _ _⟩⟩
  have g4 := kept_cell hr.lt (hr.at (o := 4) (v := .int .i64 s.login) rfl)
  have g5 := kept_cell hr.lt (hr.at (o := 5) (v := .int .i64 s.last) rfl)
  have c1 := kept_cell hv.lt (hv.at (o := 1) (v := .int .i64 x.idle) rfl)
  have c2 := kept_cell hv.lt (hv.at (o := 2) (v := .int .i64 x.most) rfl)
  have w1 : IntKind.i64.wrap (s.last + x.idle) = s.last + x.idle := by rw [IntKind.wrap_i64]; omega
  have w2 : IntKind.i64.wrap (s.login + x.most) = s.login + x.most := by rw [IntKind.wrap_i64]; omega
  have eO := hide (show overS x s t = (decide (s.last + x.idle < t) || decide (s.login + x.most < t)) from rfl)
  clear hr hv
  generalize overS x s t = O at *
  generalize s.login = LG at *
  generalize s.last = LA at *
  generalize x.idle = ID at *
  generalize x.most = MO at *
  by_cases p1 : LA + ID < t
  all_goals
    by_cases p2 : LG + MO < t
    all_goals
      go_enter Tryd.func30, Tryd.ntmps30
      go_upto_region 1 with fail
      refine wp_region_kept (by kernel_rfl) (by kernel_rfl) ?_
      repeat (first
        | go_big_quiet_step ((fail))
        | quiet_step ((fail)))
      refine wpQuiet_nil ?_
      rintro _ ⟨q, rfl⟩
      go_wp2_with fail
      go_ret
      exact ⟨by rw [unhide eO]; simp [p1, p2], q.h⟩
end Go.Proofs.YtppkgcedkdeccaaDoor
/- Sessions: the program's state in memory. -/
namespace Go.Proofs.YtppkgcedkdeccaaDoor
set_option linter.unusedSimpArgs false
set_option linter.unusedVariables false
set_option maxRecDepth 20000
open Go.RowKit Go.Maps


def StI (T : TypeId) : Prop := T = 69 ∨ T = 103 ∨ T = 70
/-- What the state is made of: rows of its types, maps, channels. -/
def StO : Obj → Prop
  | .cells _ T _ => StI T
  | .map .. => True
  | .chan .. => True
  | _ => False
theorem ChanAt.same {w w' : World} {k : Nat} {c : Bool} (h : ChanAt w k c) (hb : w'.heap[k]? = w.heap[k]?) : ChanAt w' k c := by
  obtain ⟨s, r, e⟩ := h
  exact ⟨s, r, hb.trans e⟩
theorem ChanAt.lt {w : World} {k : Nat} {c : Bool} (h : ChanAt w k c) : k < w.heap.size := by
  obtain ⟨s, r, e⟩ := h
  exact (Array.getElem?_eq_some_iff.1 e).1
theorem ChanAt.is {w : World} {k : Nat} {c : Bool} (h : ChanAt w k c) : ∃ o, w.heap[k]? = some o ∧ StO o := by
  obtain ⟨s, r, e⟩ := h
  exact ⟨_, e, trivial⟩
theorem ChanAt.uniq {w : World} {k : Nat} {c d : Bool} (h : ChanAt w k c) (h2 : ChanAt w k d) : c = d := by
  obtain ⟨s, r, e⟩ := h
  obtain ⟨s2, r2, e2⟩ := h2
  rw [e] at e2
  cases e2
  rfl
theorem KM.is {w : World} {b n : Nat} {m : ByteArray → Option Value} (h : KM Tryd.prog 9 Value.string w b n m) : ∃ es cl, w.heap[b]? = some (.map es cl) := by
  obtain ⟨D, ⟨es, clock, h1, _⟩, _⟩ := h
  exact ⟨_, _, h1⟩
noncomputable def idMap (x : SsT) (Q : List BlT) (y : ByteArray) : Option Value := (findI (idsL x.list) y).map fun j => .pointer (some ⟨(Q.getD j ⟨0, 0, 0, false, false⟩).sb, 0, none⟩)
def ptrV (Q : List BlT) : List Value := Q.map fun q => .pointer (some ⟨q.sb, 0, none⟩)
structure PsAt (w0 w : World) (b : Nat) (ka : Option Addr) (kl kc : Nat) (x : SsT) (mo me : Nat) (ov : Value) (Q : List BlT) (M : ByteArray → Option Value) (n : Nat) : Prop where
  box : RowIs w b (vC ka kl kc x mo me ov) 69
  len : Q.length = x.list.length
  ses : ∀ i (h : i < Q.length) (h' : i < x.list.length), RowIs w Q[i].sb (sC x.list[i] Q[i]) 103
  che : ∀ i (h : i < Q.length), ChanAt w Q[i].en Q[i].ce
  chv : ∀ i (h : i < Q.length), ChanAt w Q[i].ev Q[i].cd
  dd : ∀ i (h : i < Q.length) (h' : i < x.list.length), x.list[i].dead = (Q[i].ce || Q[i].cd)
  sbA : ∀ i j (hi : i < Q.length) (hj : j < Q.length), i ≠ j → Q[i].sb ≠ Q[j].sb
  enA : ∀ i j (hi : i < Q.length) (hj : j < Q.length), i ≠ j → Q[i].en ≠ Q[j].en
  nv : ∀ i j (hi : i < Q.length) (hj : j < Q.length), Q[i].en ≠ Q[j].ev
  idm : KM Tryd.prog 9 Value.string w mo x.given (idMap x Q)
  evm : KM Tryd.prog 9 Value.string w me n M
  m1 : ∀ u v, M u = some v → ∃ c, v = .chan (some c) ∧ ChanAt w c false ∧ b < c ∧ ∀ i (h : i < Q.length), Q[i].en ≠ c
  m2 : ∀ i (h : i < Q.length) (h' : i < x.list.length), Q[i].cd = true ∨ M x.list[i].user = some (.chan (some Q[i].ev))
  m3 : ∀ u u' v, M u = some v → M u' = some v → u = u'
  own : w.ownsRow (b + 1) 70 1 ov Q.length (ptrV Q)
  lows : ∀ i (h : i < Q.length), b < Q[i].sb ∧ b < Q[i].en ∧ b < Q[i].ev
  lom : w0.heap.size ≤ mo ∧ w0.heap.size ≤ me ∧ mo ≠ me ∧ mo ≠ b ∧ me ≠ b ∧ w0.heap.size ≤ b
  bel : Below w0.heap.size w0 w
  lo : w0.heap.size ≤ b
section
variable {w0 w : World} {b : Nat} {ka : Option Addr} {kl kc : Nat} {x : SsT} {mo me : Nat} {ov : Value} {Q : List BlT} {M : ByteArray → Option Value} {n : Nat}
theorem PsAt.other {w' : World} (h : PsAt w0 w b ka kl kc x mo me ov Q M n) (hb : ∀ (g : Nat) (o : Obj), w.heap[g]? = some o → StO o → w'.heap[g]? = w.heap[g]?) (hB : Below w0.heap.size w0 w') : PsAt w0 w' b ka kl kc x mo me ov Q M n := by
  have row : ∀ {g : Nat} {C : Array Value} {T : TypeId}, StI T → RowIs w g C T → RowIs w' g C T := fun {g C T} hT hr => by
    unfold RowIs at *
    rw [hb g _ hr hT]; exact hr
  have ch : ∀ {k : Nat} {c : Bool}, ChanAt w k c → ChanAt w' k c := fun {k c} hc => by
    obtain ⟨o, e, hS⟩ := hc.is
    exact hc.same (hb k o e hS)
  have km : ∀ {k m : Nat} {m' : ByteArray → Option Value}, KM Tryd.prog 9 Value.string w k m m' → KM Tryd.prog 9 Value.string w' k m m' := fun {k m m'} hk => by
    obtain ⟨es, cl, e⟩ := hk.is
    exact hk.block (hb k _ e trivial)
  refine ⟨row (.inl rfl) h.box, h.len, fun i hi hi' => row (.inr (.inl rfl)) (h.ses i hi hi'), fun i hi => ch (h.che i hi), fun i hi => ch (h.chv i hi), h.dd, h.sbA, h.enA, h.nv, km h.idm, km h.evm, fun u v hv => ?_, h.m2, h.m3, own_blk h.own (fun g hg => ?_), h.lows, h.lom, hB, h.lo⟩
  · obtain ⟨c, a1, a2, a3, a4⟩ := h.m1 u v hv
    exact ⟨c, a1, ch a2, a3, a4⟩
  · obtain ⟨C, hC⟩ := own_is h.own hg
    exact hb g _ hC (.inr (.inr rfl))
theorem PsAt.keep {w' : World} (h : PsAt w0 w b ka kl kc x mo me ov Q M n) (hb : Below w.heap.size w w') : PsAt w0 w' b ka kl kc x mo me ov Q M n :=
  h.other (fun g o e _ => hb.block g (Array.getElem?_eq_some_iff.1 e).1) (bTr h.bel hb)
theorem PsAt.setOut {q : Nat} {C : Array Value} {T : TypeId} (h : PsAt w0 w b ka kl kc x mo me ov Q M n) (hr : RowIs w q C T) (hT : ¬ StI T) (hq : w0.heap.size ≤ q) (o : Nat) (u : Value) : PsAt w0 (w.setCell ⟨q, o, none⟩ u) b ka kl kc x mo me ov Q M n :=
  h.other (fun g o' hg hS => heap_setCell_other w ⟨q, o, none⟩ g u (by
    show g ≠ q
    rintro rfl
    unfold RowIs at hr
    rw [hr] at hg
    cases hg
    exact hT hS)) (h.bel.setCell hq _)
theorem PsAt.tch {w' : World} (h : PsAt w0 w b ka kl kc x mo me ov Q M n) (hb : Below w.heap.size w w') : Tch StI w0.heap.size w w' := Tch.of hb h.bel.size
theorem PsAt.okQ (h : PsAt w0 w b ka kl kc x mo me ov Q M n) {j : Nat} (hj : j < Q.length) : j < x.list.length := by rw [← h.len]; exact hj
/-- A store into the box. -/
theorem PsAt.setBox (h : PsAt w0 w b ka kl kc x mo me ov Q M n) (o : Nat) (u : Value) (x' : SsT) (e : (vC ka kl kc x mo me ov).setIfInBounds o u = vC ka kl kc x' mo me ov) (hl : x'.list = x.list) (hg : x.given ≤ x'.given) : PsAt w0 (w.setCell ⟨b, o, none⟩ u) b ka kl kc x' mo me ov Q M n := by
  have ne : ∀ g, g ≠ b → (w.setCell ⟨b, o, none⟩ u).heap[g]? = w.heap[g]? := fun g hg => heap_setCell_other w ⟨b, o, none⟩ g u hg
  have ch : ∀ {k : Nat} {c : Bool}, ChanAt w k c → ChanAt (w.setCell ⟨b, o, none⟩ u) k c := fun {k c} hc => hc.same (ne k (by
    rintro rfl
    obtain ⟨s, r, e⟩ := hc
    have q := h.box
    unfold RowIs at q
    rw [q] at e
    cases e))
  have im : idMap x' Q = idMap x Q := by funext y; unfold idMap; rw [hl]
  refine ⟨by rw [← e]; exact h.box.set o u, by rw [hl]; exact h.len, fun i hi hi' => ?_, fun i hi => ch (h.che i hi), fun i hi => ch (h.chv i hi), fun i hi hi' => ?_, h.sbA, h.enA, h.nv, ?_, h.evm.block (ne _ (by have := h.lom; omega)), fun a v hv => ?_, fun i hi hi' => ?_, h.m3, own_blk h.own (fun g hg => ne g (by have := (h.own.lt g hg).1; omega)), h.lows, h.lom, h.bel.setCell h.lo _, h.lo⟩
  · have q := h.ses i hi (by rw [← hl]; exact hi')
    have q2 : x'.list[i] = x.list[i]'(by rw [← hl]; exact hi') := by simp only [hl]
    rw [q2]
    exact q.setOther _ (by have := (h.lows i hi).1; omega)
  · have q := h.dd i hi (by rw [← hl]; exact hi')
    simp only [hl]; exact q
  · rw [im]
    exact (h.idm.block (ne _ (by have := h.lom; omega))).more hg
  · obtain ⟨c, a1, a2, a3, a4⟩ := h.m1 a v hv
    exact ⟨c, a1, ch a2, a3, a4⟩
  · have q := h.m2 i hi (by rw [← hl]; exact hi')
    simp only [hl]; exact q
theorem PsAt.tchB (h : PsAt w0 w b ka kl kc x mo me ov Q M n) (o : Nat) (u : Value) : Tch StI w0.heap.size w (w.setCell ⟨b, o, none⟩ u) := Tch.setS h.box h.lo (.inl rfl) _ _
/-- A store into session j (not its Id's list, not dead). -/
theorem PsAt.setX (h : PsAt w0 w b ka kl kc x mo me ov Q M n) {j : Nat} (hj : j < Q.length) (o : Nat) (u : Value) (s' : SxT) (e : (sC (x.list[j]'(h.okQ hj)) Q[j]).setIfInBounds o u = sC s' Q[j]) (hids : s'.ids = (x.list[j]'(h.okQ hj)).ids) (hu : s'.user = (x.list[j]'(h.okQ hj)).user) (hd : s'.dead = (x.list[j]'(h.okQ hj)).dead) :
    PsAt w0 (w.setCell ⟨Q[j].sb, o, none⟩ u) b ka kl kc { x with list := x.list.set j s' } mo me ov Q M n := by
  have hjx := h.okQ hj
  have rj := h.ses j hj hjx
  have ne : ∀ g, g ≠ Q[j].sb → (w.setCell ⟨Q[j].sb, o, none⟩ u).heap[g]? = w.heap[g]? := fun g hg => heap_setCell_other w ⟨Q[j].sb, o, none⟩ g u hg
  have ch : ∀ {k : Nat} {c : Bool}, ChanAt w k c → ChanAt (w.setCell ⟨Q[j].sb, o, none⟩ u) k c := fun {k c} hc => hc.same (ne k (by
    rintro rfl
    obtain ⟨s, r, e⟩ := hc
    unfold RowIs at rj
    rw [rj] at e
    cases e))
  have km : ∀ {k m : Nat} {m' : ByteArray → Option Value}, KM Tryd.prog 9 Value.string w k m m' → KM Tryd.prog 9 Value.string (w.setCell ⟨Q[j].sb, o, none⟩ u) k m m' := fun {k m m'} hk => hk.block (ne _ (by
    rintro rfl
    obtain ⟨es, cl, e⟩ := hk.is
    unfold RowIs at rj
    rw [rj] at e
    cases e))
  have il : idsL (x.list.set j s') = idsL x.list := by
    unfold idsL
    rw [List.map_set, hids]
    have : (x.list.map (·.ids)).set j (x.list[j]).ids = x.list.map (·.ids) := by
      have q : (x.list[j]).ids = (x.list.map (·.ids))[j]'(by simpa using hjx) := by simp
      rw [q, List.set_getElem_self]
    exact this
  have im : idMap { x with list := x.list.set j s' } Q = idMap x Q := by funext y; unfold idMap; rw [il]
  have gg : ∀ i (hi : i < x.list.length), (x.list.set j s')[i]'(by simpa using hi) = if i = j then s' else x.list[i] := by
    intro i hi
    rw [List.getElem_set]
    by_cases e : j = i
    · subst e; simp
    · rw [if_neg e, if_neg (fun q => e q.symm)]
  refine ⟨h.box.setOther _ (by have := (h.lows j hj).1; omega), by simpa using h.len, fun i hi hi' => ?_, fun i hi => ch (h.che i hi), fun i hi => ch (h.chv i hi), fun i hi hi' => ?_, h.sbA, h.enA, h.nv, by rw [im]; exact km h.idm, km h.evm, fun a v hv => ?_, fun i hi hi' => ?_, h.m3, own_blk h.own (fun g hg => ne g ?_), h.lows, h.lom, h.bel.setCell (by have := (h.lows j hj).1; have := h.lo; show w0.heap.size ≤ Q[j].sb; omega) _, h.lo⟩
  · have hix : i < x.list.length := h.okQ hi
    show RowIs _ _ (sC ((x.list.set j s')[i]'(by simpa using hix)) Q[i]) _
    rw [gg i hix]
    by_cases e2 : i = j
    · subst e2
      rw [if_pos rfl, ← e]
      exact rj.set o u
    · rw [if_neg e2]
      exact (h.ses i hi hix).setOther _ (h.sbA i j hi hj e2)
  · have hix : i < x.list.length := h.okQ hi
    show ((x.list.set j s')[i]'(by simpa using hix)).dead = _
    rw [gg i hix]
    by_cases e2 : i = j
    · subst e2
      rw [if_pos rfl, hd]
      exact h.dd i hi hix
    · rw [if_neg e2]
      exact h.dd i hi hix
  · obtain ⟨c, a1, a2, a3, a4⟩ := h.m1 a v hv
    exact ⟨c, a1, ch a2, a3, a4⟩
  · have hix : i < x.list.length := h.okQ hi
    show _ ∨ M ((x.list.set j s')[i]'(by simpa using hix)).user = _
    rw [gg i hix]
    by_cases e2 : i = j
    · subst e2
      rw [if_pos rfl, hu]
      exact h.m2 i hi hix
    · rw [if_neg e2]
      exact h.m2 i hi hix
  · rintro rfl
    obtain ⟨C, hC⟩ := own_is h.own hg
    unfold RowIs at rj
    rw [rj] at hC
    simp at hC
theorem PsAt.tchX (h : PsAt w0 w b ka kl kc x mo me ov Q M n) {j : Nat} (hj : j < Q.length) (o : Nat) (u : Value) : Tch StI w0.heap.size w (w.setCell ⟨Q[j].sb, o, none⟩ u) := Tch.setS (h.ses j hj (h.okQ hj)) (by have := (h.lows j hj).1; have := h.lo; omega) (.inr (.inl rfl)) _ _
end
def PsEnd (w0 w : World) (b : Nat) (ka : Option Addr) (kl kc : Nat) (x' : SsT) (mo me : Nat) (w' : World) : Prop := (∃ ov' Q' M' n', n' ≤ x'.given ∧ PsAt w0 w' b ka kl kc x' mo me ov' Q' M' n') ∧ Tch StI w0.heap.size w w'
end Go.Proofs.YtppkgcedkdeccaaDoor
/- Sessions: a session dies. -/
namespace Go.Proofs.YtppkgcedkdeccaaDoor
set_option linter.unusedSimpArgs false
set_option linter.unusedVariables false
set_option maxRecDepth 20000
open Go.RowKit Go.Maps


def closeW (w : World) (k s r : Nat) : World := { w with heap := w.heap.setIfInBounds k (.chan 0 #[] true s r false) }
theorem closeW_same (w : World) (k s r : Nat) (h : k < w.heap.size) : (closeW w k s r).heap[k]? = some (.chan 0 #[] true s r false) := by
  unfold closeW
  simp [h]
theorem closeW_other (w : World) (k s r g : Nat) (h : g ≠ k) : (closeW w k s r).heap[g]? = w.heap[g]? := by
  unfold closeW
  rw [Array.getElem?_setIfInBounds, if_neg (fun e => h e.symm)]
theorem closeW_size (w : World) (k s r : Nat) : (closeW w k s r).heap.size = w.heap.size := by unfold closeW; simp
theorem Below.close {B : Nat} {a w : World} (h : Below B a w) {k : Nat} (hk : B ≤ k) (s r : Nat) : Below B a (closeW w k s r) :=
  ⟨h.os, h.tape, h.output, by rw [closeW_size]; exact h.size, fun g hg => by rw [closeW_other w k s r g (by omega)]; exact h.block g hg⟩
theorem Tch.close {S : TypeId → Prop} {b k : Nat} {w : World} {c : Bool} (hc : ChanAt w k c) (hb : b ≤ k) (s r : Nat) : Tch S b w (closeW w k s r) :=
  ⟨Below.close (Below.refl _ _) hb s r, fun g C T f hg _ => by
    rw [closeW_other w k s r g (by
      rintro rfl
      obtain ⟨s2, r2, e⟩ := hc
      rw [e] at hg
      cases hg)]
    exact hg⟩
section
variable {w0 w : World} {b : Nat} {ka : Option Addr} {kl kc : Nat} {x : SsT} {mo me : Nat} {ov : Value} {Q : List BlT} {M : ByteArray → Option Value} {n : Nat}
theorem PsAt.closeEn (h : PsAt w0 w b ka kl kc x mo me ov Q M n) {j : Nat} (hj : j < Q.length) (s r : Nat) :
    PsAt w0 (closeW w Q[j].en s r) b ka kl kc { x with list := x.list.set j { (x.list[j]'(h.okQ hj)) with dead := true } } mo me ov (Q.set j { Q[j] with ce := true }) M n := by
  have hjx := h.okQ hj
  have cj := h.che j hj
  have row : ∀ {g : Nat} {C : Array Value} {T : TypeId}, RowIs w g C T → RowIs (closeW w Q[j].en s r) g C T := fun {g C T} hr => by
    unfold RowIs at *
    rw [closeW_other _ _ _ _ _ (by
      rintro rfl
      obtain ⟨s2, r2, e⟩ := cj
      rw [e] at hr
      cases hr)]
    exact hr
  have km : ∀ {k m : Nat} {m' : ByteArray → Option Value}, KM Tryd.prog 9 Value.string w k m m' → KM Tryd.prog 9 Value.string (closeW w Q[j].en s r) k m m' := fun {k m m'} hk => hk.block (closeW_other _ _ _ _ _ (by
    rintro rfl
    obtain ⟨es, cl, e⟩ := hk.is
    obtain ⟨s2, r2, e2⟩ := cj
    rw [e2] at e
    cases e))
  have ch : ∀ {k : Nat} {c : Bool}, k ≠ Q[j].en → ChanAt w k c → ChanAt (closeW w Q[j].en s r) k c := fun {k c} hk hc => hc.same (closeW_other _ _ _ _ _ hk)
  have il : idsL (x.list.set j { (x.list[j]) with dead := true }) = idsL x.list := by
    unfold idsL
    rw [List.map_set]
    have q : ({ (x.list[j]) with dead := true } : SxT).ids = (x.list.map (·.ids))[j]'(by simpa using hjx) := by simp
    rw [q, List.set_getElem_self]
  have gx : ∀ i (hi : i < x.list.length), (x.list.set j { (x.list[j]) with dead := true })[i]'(by simpa using hi) = if i = j then { (x.list[i]) with dead := true } else x.list[i] := by
    intro i hi
    rw [List.getElem_set]
    by_cases e : j = i
    · subst e; simp
    · rw [if_neg e, if_neg (fun q => e q.symm)]
  have gq : ∀ i (hi : i < Q.length), (Q.set j { Q[j] with ce := true })[i]'(by simpa using hi) = if i = j then { Q[i] with ce := true } else Q[i] := by
    intro i hi
    rw [List.getElem_set]
    by_cases e : j = i
    · subst e; simp
    · rw [if_neg e, if_neg (fun q => e q.symm)]
  have gb : ∀ i (hi : i < Q.length), ((Q.set j { Q[j] with ce := true })[i]'(by simpa using hi)).sb = Q[i].sb ∧ ((Q.set j { Q[j] with ce := true })[i]'(by simpa using hi)).en = Q[i].en ∧ ((Q.set j { Q[j] with ce := true })[i]'(by simpa using hi)).ev = Q[i].ev ∧ ((Q.set j { Q[j] with ce := true })[i]'(by simpa using hi)).cd = Q[i].cd := by
    intro i hi
    rw [gq i hi]
    split <;> exact ⟨rfl, rfl, rfl, rfl⟩
  have pv : ptrV (Q.set j { Q[j] with ce := true }) = ptrV Q := by
    unfold ptrV
    rw [List.map_set]
    have q : (Value.pointer (some ⟨({ Q[j] with ce := true } : BlT).sb, 0, none⟩)) = (Q.map fun q => (.pointer (some ⟨q.sb, 0, none⟩) : Value))[j]'(by simpa using hj) := by simp
    rw [q, List.set_getElem_self]
  have im : idMap { x with list := x.list.set j { (x.list[j]) with dead := true } } (Q.set j { Q[j] with ce := true }) = idMap x Q := by
    funext y
    unfold idMap
    rw [il]
    cases e : findI (idsL x.list) y with
    | none => rfl
    | some i =>
      have hi : i < Q.length := by
        have q := (findK_some e).1
        rw [h.len]
        unfold idsL at q
        simpa using q
      simp only [Option.map_some]
      rw [List.getD_eq_getElem?_getD, List.getD_eq_getElem?_getD, List.getElem?_eq_getElem (by simpa using hi), List.getElem?_eq_getElem hi]
      simp only [Option.getD_some]
      rw [(gb i hi).1]
  refine ⟨row h.box, by simpa using h.len, fun i hi hi' => ?_, fun i hi => ?_, fun i hi => ?_, fun i hi hi' => ?_, fun i k hi hk hn => ?_, fun i k hi hk hn => ?_, fun i k hi hk => ?_, by rw [im]; exact km h.idm, km h.evm, fun a v hv => ?_, fun i hi hi' => ?_, h.m3, ?_, fun i hi => ?_, h.lom, Below.close h.bel (by have := (h.lows j hj).2.1; have := h.lo; omega) s r, h.lo⟩
  · have h1 : i < Q.length := by simpa using hi
    have h2 : i < x.list.length := h.okQ h1
    obtain ⟨a1, a2, a3, a4⟩ := gb i h1
    show RowIs _ _ (sC ((x.list.set j { (x.list[j]) with dead := true })[i]'(by simpa using h2)) _) _
    rw [a1, gx i h2]
    have q : sC (if i = j then { (x.list[i]) with dead := true } else x.list[i]) ((Q.set j { Q[j] with ce := true })[i]'hi) = sC x.list[i] Q[i] := by
      unfold sC
      rw [a2, a3]
      split <;> rfl
    rw [q]
    exact row (h.ses i h1 h2)
  · have h1 : i < Q.length := by simpa using hi
    rw [gq i h1]
    by_cases e : i = j
    · subst e
      rw [if_pos rfl]
      exact ⟨s, r, closeW_same w _ s r cj.lt⟩
    · rw [if_neg e]
      exact ch (h.enA i j h1 hj e) (h.che i h1)
  · have h1 : i < Q.length := by simpa using hi
    rw [(gb i h1).2.2.1, (gb i h1).2.2.2]
    exact ch (fun q => h.nv j i hj h1 q.symm) (h.chv i h1)
  · have h1 : i < Q.length := by simpa using hi
    have h2 : i < x.list.length := h.okQ h1
    show ((x.list.set j { (x.list[j]) with dead := true })[i]'(by simpa using h2)).dead = _
    rw [gx i h2, gq i h1]
    by_cases e : i = j
    · rw [if_pos e, if_pos e]; rfl
    · rw [if_neg e, if_neg e]
      exact h.dd i h1 h2
  · have h1 : i < Q.length := by simpa using hi
    have h2 : k < Q.length := by simpa using hk
    rw [(gb i h1).1, (gb k h2).1]
    exact h.sbA i k h1 h2 hn
  · have h1 : i < Q.length := by simpa using hi
    have h2 : k < Q.length := by simpa using hk
    rw [(gb i h1).2.1, (gb k h2).2.1]
    exact h.enA i k h1 h2 hn
  · have h1 : i < Q.length := by simpa using hi
    have h2 : k < Q.length := by simpa using hk
    rw [(gb i h1).2.1, (gb k h2).2.2.1]
    exact h.nv i k h1 h2
  · obtain ⟨c, a1, a2, a3, a4⟩ := h.m1 a v hv
    refine ⟨c, a1, ch (fun q => a4 j hj q.symm) a2, a3, fun i hi => ?_⟩
    have h1 : i < Q.length := by simpa using hi
    rw [(gb i h1).2.1]
    exact a4 i h1
  · have h1 : i < Q.length := by simpa using hi
    have h2 : i < x.list.length := h.okQ h1
    show _ ∨ M ((x.list.set j { (x.list[j]) with dead := true })[i]'(by simpa using h2)).user = _
    rw [(gb i h1).2.2.1, (gb i h1).2.2.2, gx i h2]
    have q : (if i = j then { (x.list[i]) with dead := true } else x.list[i]).user = x.list[i].user := by split <;> rfl
    rw [q]
    exact h.m2 i h1 h2
  · rw [pv, List.length_set]
    exact own_blk h.own (fun g hg => by
      obtain ⟨C, hC⟩ := own_is h.own hg
      exact closeW_other _ _ _ _ _ (by
        rintro rfl
        obtain ⟨s2, r2, e⟩ := cj
        rw [e] at hC
        cases hC))
  · have h1 : i < Q.length := by simpa using hi
    rw [(gb i h1).1, (gb i h1).2.1, (gb i h1).2.2.1]
    exact h.lows i h1
theorem set_dead (l : List SxT) (j : Nat) (hj : j < l.length) (hd : l[j].dead = true) : l.set j { l[j] with dead := true } = l := by
  have e : ({ l[j] with dead := true } : SxT) = l[j] := by
    have : ∀ s : SxT, s.dead = true → { s with dead := true } = s := fun s hs => by cases s; simp at hs; subst hs; rfl
    exact this _ hd
  rw [e, List.set_getElem_self]
set_option maxHeartbeats 4000000 in
theorem die_any (h : PsAt w0 w b ka kl kc x mo me ov Q M n) (hn : n ≤ x.given) {j : Nat} (hj : j < Q.length) :
    Calls Tryd.prog 68 #[.pointer (some ⟨Q[j].sb, 0, none⟩)] w fun e w' => e = .returned (.tuple #[]) ∧ PsEnd w0 w b ka kl kc { x with list := x.list.set j { (x.list[j]'(h.okQ hj)) with dead := true } } mo me w' := by
  have hjx := h.okQ hj
  have rj := h.ses j hj hjx
  have qd := hide (isDead_any Q[j].sb Q[j].en Q[j].ev Q[j].ce Q[j].cd w (rj.at (o := 6) rfl) (rj.at (o := 7) rfl) (h.che j hj) (h.chv j hj))
  rw [← h.dd j hj hjx] at qd
  have HH := hide h
  cases hde : x.list[j].dead with
  | true =>
    rw [hde] at qd
    have ES := hide (set_dead x.list j hjx hde)
    clear rj
    go_enter Tryd.func68, Tryd.ntmps68
    go_wp2_with fail
    refine (unhide qd).mono ?_
    rintro e w1 ⟨rfl, hb1⟩
    go_wp2_with fail
    go_end0
    refine ⟨rfl, ⟨ov, Q, M, n, hn, ?_⟩, (unhide HH).tch hb1⟩
    have q := (unhide HH).keep hb1
    rw [unhide ES]
    exact q
  | false =>
    rw [hde] at qd
    clear rj
    go_enter Tryd.func68, Tryd.ntmps68
    go_wp2_with fail
    refine (unhide qd).mono ?_
    rintro e w1 ⟨rfl, hb1⟩
    have H1 := hide ((unhide HH).keep hb1)
    have T1 := hide ((unhide HH).tch hb1)
    have c6 := ((unhide H1).ses j hj hjx).at (o := 6) (v := .chan (some Q[j].en)) rfl
    have cz := ((unhide H1).ses j hj hjx).lt
    have hce : Q[j].ce = false := by
      have q := (unhide HH).dd j hj hjx
      rw [hde] at q
      cases e : Q[j].ce with
      | false => rfl
      | true => rw [e] at q; simp at q
    have cc := (unhide H1).che j hj
    rw [hce] at cc
    obtain ⟨s, r, hc⟩ := cc
    have hz := (Array.getElem?_eq_some_iff.1 hc).1
    have CL := hide ((unhide H1).closeEn hj s r)
    have TL := hide (Tch.close (S := StI) ((unhide H1).che j hj) (by have := ((unhide H1).lows j hj).2.1; have := (unhide H1).lo; omega : w0.heap.size ≤ Q[j].en) s r)
    clear qd
    have hcl := Go.run_close_open (P := Tryd.prog) (w := w1) #[101] 0 hc
    go_wp2_with fail
    go_end0
    exact ⟨rfl, ⟨ov, _, M, n, hn, unhide CL⟩, (unhide T1).trans (unhide TL)⟩
end
end Go.Proofs.YtppkgcedkdeccaaDoor
