/- RunRecovery by the program. -/
import Derived.Test.YtjmpakpodhbbpaaKWg
import Derived.Laws.AppendOwn
namespace Go.Proofs.Ytjmpakpodhbbpaa
set_option linter.unusedSimpArgs false
set_option linter.unusedVariables false
set_option maxRecDepth 20000
open Go.RowKit Go.Maps


def runR : RcT → List RecoverEventT → List Int
  | _, [] => []
  | x, y :: l => rcFault x y.f0 y.f1 y.f2 :: runR (rcNext x y.f0 y.f1 y.f2) l
def RcT.at' (x : RcT) (a : Option Addr) (n c : Nat) : RcT := { x with ha := a, hl := n, hc := c }
theorem rcFault_ad (x : RcT) (a : Option Addr) (n c : Nat) (k t : Int) (s : ByteArray) : rcFault (x.at' a n c) k t s = rcFault x k t s := rfl
theorem rcNext_ad (x : RcT) (a : Option Addr) (n c : Nat) (k t : Int) (s : ByteArray) : rcNext (x.at' a n c) k t s = (rcNext x k t s).at' a n c := by
  unfold rcNext
  rw [rcFault_ad]
  (repeat' split) <;> rfl
theorem runR_ad : ∀ (l : List RecoverEventT) (x : RcT) (a : Option Addr) (n c : Nat), runR (x.at' a n c) l = runR x l
  | [], _, _, _, _ => rfl
  | y :: l, x, a, n, c => by
    show rcFault (x.at' a n c) y.f0 y.f1 y.f2 :: runR (rcNext (x.at' a n c) y.f0 y.f1 y.f2) l = _
    rw [rcFault_ad, rcNext_ad, runR_ad l]
    rfl
theorem runR_len : ∀ (l : List RecoverEventT) (x : RcT), (runR x l).length = l.length
  | [], _ => rfl
  | _ :: l, _ => by simp [runR, runR_len l]
theorem runR_next {x : RcT} {y : RecoverEventT} {l : List RecoverEventT} {k : Nat} (hk : k < l.length) (e : l[k] = y) : runR x (l.drop k) = rcFault x y.f0 y.f1 y.f2 :: runR (rcNext x y.f0 y.f1 y.f2) (l.drop (k + 1)) := by
  rw [List.drop_eq_getElem_cons hk, e]; rfl
def GHelp (H : List ByteArray) : Prop := ((H.length : Int) ≤ 10 ∧ ∀ x ∈ H, goodName x = true) ∧ ∀ i (h : i + 1 < H.length), V.cmpT H[i].data.toList H[i + 1].data.toList < 0
def GoodR (need delay : Int) (H : List ByteArray) (n : Nat) : Prop := (1 ≤ need ∧ need ≤ 10) ∧ (0 ≤ delay ∧ delay ≤ 100000000000) ∧ GHelp H ∧ n ≤ 200
structure RecIs (need delay : Int) (H : List ByteArray) (l : List RecoverEventT) (r : List Int) : Prop where
  yes : GoodR need delay H l.length → r = runR ⟨need, delay, H, 0, false, 0, [], none, 0, 0⟩ l
  no : ¬ GoodR need delay H l.length → r = []
theorem RecIs.uniq {need delay : Int} {H : List ByteArray} {l : List RecoverEventT} {r r' : List Int} (h : RecIs need delay H l r) (h' : RecIs need delay H l r') : r = r' := by
  by_cases g : GoodR need delay H l.length
  · rw [h.yes g, h'.yes g]
  · rw [h.no g, h'.no g]
theorem RecIs.len {need delay : Int} {H : List ByteArray} {l : List RecoverEventT} {r : List Int} (h : RecIs need delay H l r) : r.length ≤ 1000 := by
  by_cases g : GoodR need delay H l.length
  · rw [h.yes g, runR_len]; have := g.2.2.2; omega
  · rw [h.no g]; simp
set_option maxHeartbeats 1000000 in
theorem goodHelpers_any (h : V.Hd) (H : List ByteArray) (w : World) (hl : H.length ≤ maxLen) (ho : ∀ q ∈ H, ByteArray.size q ≤ maxLen) (hs : V.SqS w 0 h H) :
    Calls Try.prog 14 #[.slice h.a h.len h.cap] w fun e w' => V.RetB e (GHelp H) ∧ Below w.heap.size w w' := by
  have q1 := hide (V.goodList_nam (fun x => goodName x = true) 10 h H w hl hs (fun x hx w' _ => (iGoodName_any x (ho x hx) w').mono fun _ _ ⟨e, hw⟩ => ⟨⟨_, e, Iff.rfl⟩, by first | exact hw | (subst hw; exact Below.refl _ _)⟩))
  have q2 := hide (fun w' (hb : Below w.heap.size w w') => V.rising_str (fun x y => V.cmpT x.data.toList y.data.toList) h H w' hl (hs.keep hb) (fun x _ y _ w'' _ => (V.stringsCompare_any x y w'').mono fun _ _ ⟨a, b⟩ => ⟨a, by subst b; exact Below.refl _ _⟩))
  have G : Hid (GHelp H ↔ (((H.length : Int) ≤ 10 ∧ ∀ x ∈ H, goodName x = true) ∧ ∀ i (h : i + 1 < H.length), V.cmpT H[i].data.toList H[i + 1].data.toList < 0)) := hide Iff.rfl
  generalize GHelp H = GH at *
  clear hl ho hs
  go_enter Try.func14, Try.ntmps14
  go_wp2_with fail
  refine (unhide q1).mono ?_
  rintro e w1 ⟨⟨v, rfl, hv⟩, hb1⟩
  have HV := hide hv
  have B1 := hide hb1
  have q := hide (unhide q2 w1 hb1)
  clear hv hb1 q1 q2
  cases v
  · go_wp2_with fail
    go_ret
    exact ⟨⟨false, rfl, ⟨(fun h => by cases h), fun h => absurd ((unhide HV).2 ((unhide G).1 h).1) (by simp)⟩⟩, unhide B1⟩
  · go_wp2_with fail
    refine (unhide q).mono ?_
    rintro e w2 ⟨⟨v, rfl, hv2⟩, hb2⟩
    have HV2 := hide hv2
    have B2 := hide (bTr (unhide B1) hb2)
    clear hv2 hb2 q
    go_wp2_with fail
    go_ret
    exact ⟨⟨v, rfl, ⟨fun h => (unhide G).2 ⟨(unhide HV).1 (by trivial), (unhide HV2).1 h⟩, fun h => (unhide HV2).2 ((unhide G).1 h).2⟩⟩, unhide B2⟩
/-- What lies behind k events. -/
structure RSt (w : World) (l : List RecoverEventT) (x0 : RcT) (k : Nat) (v : Value) (w' : World) (x : RcT) (r : List Int) (m : Option Nat) : Prop where
  at' : RcAt w' w.heap.size x m
  own : w'.ownsRow (w.heap.size + 1) 3 1 v r.length (r.map intV)
  run : runR x0 l = r ++ runR x (l.drop k)
  len : r.length = k
  bel : Below w.heap.size w w'
  mb : ∀ mb, m = some mb → w.heap.size ≤ mb
  vot : x.votes.length ≤ k
  del : x.delay = x0.delay
theorem own_blk {w w' : World} {base e size n : Nat} {v : Value} {xs : List Value} (h : w.ownsRow base e size v n xs) (hb : ∀ g, v.ownBlock = some g → w'.heap[g]? = w.heap[g]?) : w'.ownsRow base e size v n xs := by
  refine ⟨h.1, h.2.imp_right ?_⟩
  rintro ⟨g, cap, cur, rfl, hg, hh, hc⟩
  exact ⟨g, cap, cur, rfl, hg, by rw [hb g rfl]; exact hh, hc⟩
theorem own_vm {w : World} {base e size n mb : Nat} {v : Value} {xs : List Value} {l : List ByteArray} (h : w.ownsRow base e size v n xs) (hv : VM w mb l) : ∀ g, v.ownBlock = some g → g ≠ mb := by
  rintro g hg rfl
  rcases h.2 with ⟨h1, h2⟩ | ⟨g', cap, cur, rfl, _, hh, _⟩
  · rw [h1] at hg; cases hg
  · cases hg
    obtain ⟨D, ⟨es, cl, h1, _⟩, _⟩ := hv
    rw [hh] at h1
    cases h1
theorem own_lo {w : World} {base e size n : Nat} {v : Value} {xs : List Value} {base' : Nat} (h : w.ownsRow base e size v n xs) (hb : base' ≤ base) : w.ownsRow base' e size v n xs := by
  refine ⟨h.1, h.2.imp id ?_⟩
  rintro ⟨g, cap, cur, r1, r2, r3⟩
  exact ⟨g, cap, cur, r1, Nat.le_trans hb r2, r3⟩
theorem RSt.keep {w : World} {l : List RecoverEventT} {x0 : RcT} {k : Nat} {v : Value} {w' w1 : World} {x : RcT} {r : List Int} {m : Option Nat} (h : RSt w l x0 k v w' x r m) (hb : Below w'.heap.size w' w1) : RSt w l x0 k v w1 x r m :=
  ⟨h.at'.keep hb, own_blk h.own (fun g hg => hb.block g (h.own.lt g hg).2), h.run, h.len, bTr h.bel hb, h.mb, h.vot, h.del⟩
theorem rcNext_votes (x : RcT) (k t : Int) (s : ByteArray) : (rcNext x k t s).votes.length ≤ x.votes.length + 1 ∧ (rcNext x k t s).delay = x.delay := by
  unfold rcNext
  (repeat' split) <;> simp
theorem RSt.mid {w : World} {l : List RecoverEventT} {x0 : RcT} {k : Nat} {v : Value} {w' w2 : World} {x X : RcT} {r : List Int} {m : Option Nat} (h : RSt w l x0 k v w' x r m) (hd : DoEnd w.heap.size m X w' w2) : w2.ownsRow (w.heap.size + 1) 3 1 v r.length (r.map intV) :=
  own_blk h.own (fun g hg => hd.2.block g (h.own.lt g hg).2 (by have := (h.own.lt g hg).1; omega) (fun e => by
    cases m with
    | none => cases e
    | some mb => exact own_vm h.own (h.at'.map mb rfl).1 g hg (Option.some.inj e)))
/-- The event is done, and its outcome appended. -/
theorem RSt.more {w : World} {l : List RecoverEventT} {x0 : RcT} {k : Nat} {v u : Value} {w' w2 w3 w4 : World} {x : RcT} {r : List Int} {m : Option Nat} {y : RecoverEventT} (h : RSt w l x0 k v w' x r m)
    (hN : runR x (l.drop k) = rcFault x y.f0 y.f1 y.f2 :: runR (rcNext x y.f0 y.f1 y.f2) (l.drop (k + 1))) (hd : DoEnd w.heap.size m (rcNext x y.f0 y.f1 y.f2) w' w2) (hb : Below w2.heap.size w2 w3)
    (hown : w4.ownsRow (w.heap.size + 1) 3 1 u (r.length + 1) (r.map intV ++ [intV (rcFault x y.f0 y.f1 y.f2)])) (hg : w3.grownBy w4 v.ownBlock) :
    ∃ m', RSt w l x0 (k + 1) u w4 (rcNext x y.f0 y.f1 y.f2) (r ++ [rcFault x y.f0 y.f1 y.f2]) m' := by
  obtain ⟨⟨m', h2, hm'⟩, hT⟩ := hd
  have h3 := h2.keep hb
  have ow : w'.ownsRow (w.heap.size + 1) 3 1 v r.length (r.map intV) := h.own
  have ne : ∀ g, v.ownBlock = some g → g ≠ w.heap.size := fun g e => by have := (ow.lt g e).1; omega
  have nm : ∀ mb, m' = some mb → ∀ g, v.ownBlock = some g → g ≠ mb := fun mb e g hg => by
    rcases hm' mb e with h5 | h5
    · exact own_vm ow (h.at'.map mb h5).1 g hg
    · have := (ow.lt g hg).2; omega
  have lo : Below w.heap.size w3 w4 := ⟨hg.os, hg.tape, hg.output, hg.size, fun g hgl => hg.block g (by have := h3.box.lt; omega) (fun e => by have := (ow.lt g e.symm).1; omega)⟩
  have bw : Below w.heap.size w' w2 := hT.below (by have := h.at'.box.lt; omega) (Nat.le_refl _) (fun mb e => h.mb mb e)
  refine ⟨m', ⟨⟨row_grown h3.box hg (fun e => ne _ e.symm rfl), slS_lo h3.hs h3.ap lo, h3.ap, h3.hz, h3.sz, h3.nil, fun mb e => ⟨(h3.map mb e).1.block (hg.block mb (h3.map mb e).1.lt (fun e2 => nm mb e mb e2.symm rfl)), (h3.map mb e).2⟩⟩, by simpa using hown, by rw [h.run, hN]; simp, by simp [h.len], ?_, fun mb e => ?_, ?_, by rw [(rcNext_votes x y.f0 y.f1 y.f2).2]; exact h.del⟩⟩
  · exact ((h.bel.trans bw).trans (⟨hb.os, hb.tape, hb.output, hb.size, fun g hgl => hb.block g (by have := h2.box.lt; omega)⟩)).trans lo
  · rcases hm' mb e with h5 | h5
    · exact h.mb mb h5
    · have := h.bel.size; omega
  · have := (rcNext_votes x y.f0 y.f1 y.f2).1
    have := h.vot
    omega
end Go.Proofs.Ytjmpakpodhbbpaa
