/- RunRecovery by the specification. -/
import Derived.Test.YtjmpakpodhbbpaaKWl
import Derived.Laws.AppendOwn
namespace Go.Proofs.Ytjmpakpodhbbpaa
set_option linter.unusedSimpArgs false
set_option linter.unusedVariables false
set_option maxRecDepth 20000
open Go.RowKit Go.Maps


theorem sdo_any {b : Nat} {x : RcT} {v : Value} (k t : Int) (s : ByteArray) (ha : Option Addr) (hl hc : Nat) (w : World) (h : SpAt w b x v) (hhs : V.SlS w ha hl x.H) (hz : hl ≤ 10) (hvl : x.votes.length < 1000) (hd : 0 ≤ x.delay ∧ x.delay ≤ 100000000000) : SdoIs x k t s b v ha hl hc w := by
  by_cases g1 : k < 1
  · exact sdo_u1 k t s ha hl hc w h g1
  by_cases g2 : 4 < k
  · exact sdo_u2 k t s ha hl hc w h g1 g2
  by_cases g3 : t < 0
  · exact sdo_u3 k t s ha hl hc w h g1 g2 g3
  by_cases g4 : 100000000000 < t
  · exact sdo_u4 k t s ha hl hc w h g1 g2 g3 g4
  cases g5 : (s.toList == [])
  · by_cases g6 : k = 2
    · subst g6
      by_cases gp : t < x.now
      · exact sdo_p_false 2 t s ha hl hc w h g3 g4 g5 gp
      cases hu : x.under
      · exact sdo_o3 2 t s ha hl hc w h g3 g4 g5 gp hu
      cases gm : memB x.H s
      · exact sdo_str_false 2 t s ha hl hc w h g3 g4 g5 hhs hz hvl hu gp gm
      cases gv : memB x.votes s
      · exact sdo_vote_false 2 t s ha hl hc w h g3 g4 g5 hhs hz hvl hu gp gm gv
      · exact sdo_sec_false 2 t s ha hl hc w h g3 g4 g5 hhs hz hvl hu gp gm gv
    · exact sdo_u5 k t s ha hl hc w h g1 g2 g3 g4 g5 g6
  · by_cases gp : t < x.now
    · exact sdo_p_true k t s ha hl hc w h g1 g2 g3 g4 g5 gp
    cases hu : x.under
    · by_cases gk : k = 1
      · subst gk
        exact sdo_ask 1 t s ha hl hc w h g3 g4 g5 gp hu hd
      · exact sdo_o2 k t s ha hl hc w h g1 g2 g3 g4 g5 gp hu gk
    · by_cases gk : k = 1
      · subst gk
        exact sdo_o1 1 t s ha hl hc w h g3 g4 g5 gp hu
      by_cases g6 : k = 2
      · subst g6
        cases gm : memB x.H s
        · exact sdo_str_true 2 t s ha hl hc w h g3 g4 g5 hhs hz hvl hu gp gm
        cases gv : memB x.votes s
        · exact sdo_vote_true 2 t s ha hl hc w h g3 g4 g5 hhs hz hvl hu gp gm gv
        · exact sdo_sec_true 2 t s ha hl hc w h g3 g4 g5 hhs hz hvl hu gp gm gv
      by_cases g7 : k = 3
      · subst g7
        exact sdo_stop 3 t s ha hl hc w h g3 g4 g5 gp hu
      · obtain rfl : k = 4 := by omega
        by_cases gv : (x.votes.length : Int) < x.need
        · exact sdo_lack 4 t s ha hl hc w h g3 g4 g5 gp hu gv
        by_cases gr : t < x.ready
        · exact sdo_early 4 t s ha hl hc w h g3 g4 g5 gp hu gv gr
        · exact sdo_take 4 t s ha hl hc w h g3 g4 g5 gp hu gv gr
/-- What lies behind k events. -/
structure SSt (w : World) (l : List RecoverEventT) (x0 : RcT) (k : Nat) (v : Value) (w' : World) (x : RcT) (r : List Int) (u : Value) : Prop where
  at' : SpAt w' w.heap.size x u
  own : w'.ownsRow (w.heap.size + 1) 3 1 v r.length (r.map intV)
  run : runR x0 l = r ++ runR x (l.drop k)
  len : r.length = k
  bel : Below w.heap.size w w'
  vot : x.votes.length ≤ k
  del : x.delay = x0.delay
  hlp : x.H = x0.H
  nd : x.need = x0.need
theorem SSt.keep {w : World} {l : List RecoverEventT} {x0 : RcT} {k : Nat} {v u : Value} {w' w1 : World} {x : RcT} {r : List Int} (h : SSt w l x0 k v w' x r u) (hb : Below w'.heap.size w' w1) : SSt w l x0 k v w1 x r u :=
  ⟨h.at'.keep hb, own_blk h.own (fun g hg => hb.block g (h.own.lt g hg).2), h.run, h.len, bTr h.bel hb, h.vot, h.del, h.hlp, h.nd⟩
theorem own_ty {w : World} {base base' e e' size size' n n' : Nat} {v v' : Value} {xs xs' : List Value} (h : w.ownsRow base e size v n xs) (h' : w.ownsRow base' e' size' v' n' xs') (he : e ≠ e') : ∀ g, v.ownBlock = some g → v'.ownBlock ≠ some g := by
  intro g hg hg'
  rcases h.2 with ⟨h1, h2⟩ | ⟨g1, cap, cur, rfl, _, hh, _⟩
  · rw [h1] at hg; cases hg
  rcases h'.2 with ⟨h1, h2⟩ | ⟨g2, cap', cur', rfl, _, hh', _⟩
  · rw [h1] at hg'; cases hg'
  cases hg
  cases hg'
  rw [hh] at hh'
  cases hh'
  exact he rfl
theorem rcNext_H (x : RcT) (k t : Int) (s : ByteArray) : (rcNext x k t s).H = x.H := by
  unfold rcNext
  (repeat' split) <;> rfl
theorem rcNext_need (x : RcT) (k t : Int) (s : ByteArray) : (rcNext x k t s).need = x.need := by
  unfold rcNext
  (repeat' split) <;> rfl
theorem SSt.mid {w : World} {l : List RecoverEventT} {x0 : RcT} {k : Nat} {v u : Value} {w' w2 : World} {x X : RcT} {r : List Int} (h : SSt w l x0 k v w' x r u) (hd : SpEnd w.heap.size u X w' w2) : w2.ownsRow (w.heap.size + 1) 3 1 v r.length (r.map intV) :=
  own_blk h.own (fun g hg => hd.2.block g (h.own.lt g hg).2 (by have := (h.own.lt g hg).1; omega) (own_ty h.own h.at'.own (by decide) g hg))
theorem SSt.more {w : World} {l : List RecoverEventT} {x0 : RcT} {k : Nat} {v u v' : Value} {w' w2 w3 w4 : World} {x : RcT} {r : List Int} {y : RecoverEventT} (h : SSt w l x0 k v w' x r u)
    (hN : runR x (l.drop k) = rcFault x y.f0 y.f1 y.f2 :: runR (rcNext x y.f0 y.f1 y.f2) (l.drop (k + 1))) (hd : SpEnd w.heap.size u (rcNext x y.f0 y.f1 y.f2) w' w2) (hb : Below w2.heap.size w2 w3)
    (hown : w4.ownsRow (w.heap.size + 1) 3 1 v' (r.length + 1) (r.map intV ++ [intV (rcFault x y.f0 y.f1 y.f2)])) (hg : w3.grownBy w4 v.ownBlock) :
    ∃ u', SSt w l x0 (k + 1) v' w4 (rcNext x y.f0 y.f1 y.f2) (r ++ [rcFault x y.f0 y.f1 y.f2]) u' := by
  have om := h.mid hd
  obtain ⟨⟨u', h2, hu'⟩, hT⟩ := hd
  have h3 := h2.keep hb
  have ow := h.own
  have o3 : w3.ownsRow (w.heap.size + 1) 3 1 v r.length (r.map intV) := own_blk om (fun g hg => hb.block g (om.lt g hg).2)
  have lo : Below w.heap.size w3 w4 := ⟨hg.os, hg.tape, hg.output, hg.size, fun g hgl => hg.block g (by have := h3.box.lt; omega) (fun e => by have := (ow.lt g e.symm).1; omega)⟩
  have bw : Below w.heap.size w' w2 := ⟨hT.os, hT.tape, hT.output, hT.size, fun g hgl => hT.block g (by have := h.at'.box.lt; omega) (by omega) (fun e => by have := (h.at'.own.lt g e).1; omega)⟩
  refine ⟨u', ⟨⟨row_grown h3.box hg (fun e => by have := (ow.lt _ e.symm).1; omega), own_blk h3.own (fun g hgu => hg.block g (h3.own.lt g hgu).2 (fun e => own_ty h3.own o3 (by decide) g hgu e.symm))⟩, by simpa using hown, by rw [h.run, hN]; simp, by simp [h.len], ?_, ?_, by rw [(rcNext_votes x y.f0 y.f1 y.f2).2]; exact h.del, by rw [rcNext_H]; exact h.hlp, by rw [rcNext_need]; exact h.nd⟩⟩
  · exact ((h.bel.trans bw).trans (⟨hb.os, hb.tape, hb.output, hb.size, fun g hgl => hb.block g (by have := h2.box.lt; omega)⟩)).trans lo
  · have := (rcNext_votes x y.f0 y.f1 y.f2).1
    have := h.vot
    omega
end Go.Proofs.Ytjmpakpodhbbpaa
