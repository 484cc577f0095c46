/- LSt, LQa, LSd, one behind the other. -/
import Derived.Test.YtppkgcedkdeccaaDoorJ23
import Derived.Laws.AppendOwn
import Derived.Laws.OwnMore
import Derived.Test.YtppkgcedkdeccaaDoorJ5
import Derived.Conc.LoneSelectN
import Derived.Conc.LoneSelect
import Derived.KernelRfl
import Derived.Laws.Rows
/- Sessions: what is told is one; RunSessions by the specification. -/
namespace Go.Proofs.YtppkgcedkdeccaaDoor
set_option linter.unusedSimpArgs false
set_option linter.unusedVariables false
set_option maxRecDepth 20000
open Go.RowKit Go.Maps


open Classical in
noncomputable def doS (x : SsT) (k t : Int) (u d i : ByteArray) : SsT × SessReplyT :=
  if fitE k t u d i = false then (x, errR 1) else if t < x.now then (x, errR 2) else
  if k = 1 then ({ x with now := t, given := x.given + 1, list := x.list ++ [⟨[idOf x.key (x.given + 1)], u, d, 1, t, t, false⟩] }, ⟨0, idOf x.key (x.given + 1), u, 1⟩) else
  if k = 5 then ({ x with now := t, list := killAll u x.list }, ⟨0, ⟨#[]⟩, u, 0⟩) else
  match findI (idsL x.list) i with
  | none => ({ x with now := t }, errR 3)
  | some j => match x.list[j]? with
    | none => (x, errR 0)
    | some s =>
      if ¬ (lastI s.ids = i ∧ s.device = d) then ({ x with now := t, list := x.list.set j { s with dead := true } }, errR 4) else
      if s.dead = true then ({ x with now := t }, errR 5) else if overS x s t = true then ({ x with now := t }, errR 6) else
      if k = 4 then ({ x with now := t, list := x.list.set j { s with last := t, dead := true } }, toldR s) else
      if k = 3 then ({ x with now := t, given := x.given + 1, list := x.list.set j { s with last := t, level := min (s.level + 1) 9, ids := s.ids ++ [idOf x.key (x.given + 1)] } }, ⟨0, idOf x.key (x.given + 1), s.user, min (s.level + 1) 9⟩) else
      ({ x with now := t, list := x.list.set j { s with last := t } }, toldR s)
theorem ff {b : Bool} (h : b = true) : ¬ b = false := by rw [h]; simp
theorem ff' {b : Bool} (h : b = false) : ¬ b = true := by rw [h]; simp
theorem StepS.is {x x' : SsT} {k t : Int} {u d i : ByteArray} {r : SessReplyT} (h : StepS x k t u d i x' r) : doS x k t u d i = (x', r) := by
  unfold doS
  cases h with
  | unfit hf => rw [if_pos hf]
  | past hf hn => rw [if_neg (ff hf), if_pos hn]
  | login hf hn hk => rw [if_neg (ff hf), if_neg (by omega), if_pos hk]
  | all hf hn hk => rw [if_neg (ff hf), if_neg (by omega), if_neg (by omega), if_pos hk]
  | unknown hf hn h1 h5 hF => rw [if_neg (ff hf), if_neg (by omega), if_neg h1, if_neg h5, hF]
  | stolen j hj hf hn h1 h5 hF hd =>
    rw [if_neg (ff hf), if_neg (by omega), if_neg h1, if_neg h5, hF]
    dsimp only
    rw [List.getElem?_eq_getElem hj]
    dsimp only
    rw [if_pos hd]
  | dead j hj hf hn h1 h5 hF hl hd =>
    rw [if_neg (ff hf), if_neg (by omega), if_neg h1, if_neg h5, hF]
    dsimp only
    rw [List.getElem?_eq_getElem hj]
    dsimp only
    rw [if_neg (fun q => q hl), if_pos hd]
  | over j hj hf hn h1 h5 hF hl hd ho =>
    rw [if_neg (ff hf), if_neg (by omega), if_neg h1, if_neg h5, hF]
    dsimp only
    rw [List.getElem?_eq_getElem hj]
    dsimp only
    rw [if_neg (fun q => q hl), if_neg (ff' hd), if_pos ho]
  | use j hj hf hn h1 h5 hF hl hd ho h3 h4 =>
    rw [if_neg (ff hf), if_neg (by omega), if_neg h1, if_neg h5, hF]
    dsimp only
    rw [List.getElem?_eq_getElem hj]
    dsimp only
    rw [if_neg (fun q => q hl), if_neg (ff' hd), if_neg (ff' ho), if_neg h4, if_neg h3]
  | out j hj hf hn h4 hF hl hd ho =>
    rw [if_neg (ff hf), if_neg (by omega), if_neg (by omega), if_neg (by omega), hF]
    dsimp only
    rw [List.getElem?_eq_getElem hj]
    dsimp only
    rw [if_neg (fun q => q hl), if_neg (ff' hd), if_neg (ff' ho), if_pos h4]
  | raise j hj hf hn h3 hF hl hd ho =>
    rw [if_neg (ff hf), if_neg (by omega), if_neg (by omega), if_neg (by omega), hF]
    dsimp only
    rw [List.getElem?_eq_getElem hj]
    dsimp only
    rw [if_neg (fun q => q hl), if_neg (ff' hd), if_neg (ff' ho), if_neg (by omega), if_pos h3]
theorem RunS.uniq {x x1 : SsT} {l : List SessEventT} {rs : List SessReplyT} (h : RunS x l x1 rs) : ∀ {x2 : SsT} {rs2 : List SessReplyT}, RunS x l x2 rs2 → x1 = x2 ∧ rs = rs2 := by
  induction h with
  | nil =>
    intro x2 rs2 h2
    generalize hl : ([] : List SessEventT) = l at h2
    cases h2 with
    | nil => exact ⟨rfl, rfl⟩
    | snoc _ _ => simp at hl
  | snoc h1 hs ih =>
    rename_i y1 y2 l e rs r
    intro x2 rs2 h2
    generalize hl : l ++ [e] = l2 at h2
    cases h2 with
    | nil => simp at hl
    | snoc h3 hs3 =>
      obtain ⟨a1, a2⟩ := List.append_inj' hl rfl
      cases a1
      cases a2
      obtain ⟨b1, b2⟩ := ih h3
      subst b1
      subst b2
      have q1 := hs.is
      rw [hs3.is] at q1
      cases q1
      exact ⟨rfl, rfl⟩
def GC (kl : Nat) (idle most : Int) : Prop := kl ≤ 64 ∧ (1 ≤ idle ∧ idle ≤ 1000000) ∧ (1 ≤ most ∧ most ≤ 1000000)
instance (kl : Nat) (idle most : Int) : Decidable (GC kl idle most) := by unfold GC; infer_instance
structure RunIs (key : List UInt8) (kl : Nat) (idle most : Int) (l : List SessEventT) (r : List SessReplyT) : Prop where
  yes : GC kl idle most → l.length ≤ 200 → ∃ x', RunS (xS0 key idle most) l x' r
  no : ¬ (GC kl idle most ∧ l.length ≤ 200) → r = []
theorem RunIs.uniq {key : List UInt8} {kl : Nat} {idle most : Int} {l : List SessEventT} {r r' : List SessReplyT} (h : RunIs key kl idle most l r) (h' : RunIs key kl idle most l r') : r = r' := by
  by_cases g : GC kl idle most ∧ l.length ≤ 200
  · obtain ⟨_, h1⟩ := h.yes g.1 g.2
    obtain ⟨_, h2⟩ := h'.yes g.1 g.2
    exact (h1.uniq h2).2
  · rw [h.no g, h'.no g]
theorem RunIs.len {key : List UInt8} {kl : Nat} {idle most : Int} {l : List SessEventT} {r : List SessReplyT} (h : RunIs key kl idle most l r) : r.length ≤ 1000 := by
  by_cases g : GC kl idle most ∧ l.length ≤ 200
  · obtain ⟨_, h1⟩ := h.yes g.1 g.2
    rw [h1.len]; omega
  · rw [h.no g]; simp
set_option maxHeartbeats 2000000 in
theorem sGoodC_any (ka : Option Addr) (kl kc : Nat) (idle most : Int) (w : World) : Calls Tryd.prog 27 #[.agg #[.slice ka kl kc, .int .i64 idle, .int .i64 most]] w fun e w' => Said e (decide (GC kl idle most)) w w' := by
  go_enter Tryd.func27, Tryd.ntmps27
  go_wp2_with fail
  all_goals go_ret
  all_goals
    refine ⟨congrArg (fun b => Ending.returned (.bool b)) ?_, bAl (Below.refl _ _) _⟩
    rw [Bool.eq_iff_iff]
    simp only [decide_eq_true_eq, Bool.false_eq_true, false_iff, true_iff]
    unfold GC
    omega
set_option maxHeartbeats 4000000 in
theorem sRunSessions_v (ka : Option Addr) (kl kc : Nat) (key : List UInt8) (idle most : Int) (a : Option Addr) (len cap : Nat) (l : List SessEventT) (w : World) (hk : D.SlB w w.heap.size ka kl key) (hl : len ≤ maxLen) (hs : SlSessEvent w a len l) (hok : ∀ q ∈ l, SessEventT.Ok q) :
    Calls Tryd.prog 7 #[.agg #[.slice ka kl kc, .int .i64 idle, .int .i64 most], .slice a len cap] w fun e w' => (∃ v r, e = .returned v ∧ RunIs key kl idle most l r ∧ w'.ownsRow w.heap.size 31 4 v r.length (SessReplysV r)) ∧ Below w.heap.size w w' := by
  unfold maxLen at hl
  have LL := hide hs.1
  obtain ⟨W1, hW1⟩ : ∃ W, W = w.alloc (.cells #[.slice ka kl kc, .int .i64 idle, .int .i64 most] 24) := ⟨_, rfl⟩
  have b1 : Below w.heap.size w W1 := by rw [hW1]; exact bAl (Below.refl _ _) _
  have R1 := hide (show RowIs W1 w.heap.size #[.slice ka kl kc, .int .i64 idle, .int .i64 most] 24 by rw [hW1]; exact RowIs.new _ _ _)
  have HW := hide hW1.symm
  have B1 := hide b1
  have HS := hide (hs.keep b1)
  have HO := hide hok
  have HK := hide ((hk.keep b1).mono b1.size)
  clear hW1 b1 hs hok hk
  have x0 := (unhide R1).at (o := 0) (v := .slice ka kl kc) rfl
  have x1 := (unhide R1).at (o := 1) (v := .int .i64 idle) rfl
  have x2 := (unhide R1).at (o := 2) (v := .int .i64 most) rfl
  have xz := (unhide R1).lt
  have N := hide (fun (h : ¬ (GC kl idle most ∧ l.length ≤ 200)) => show RunIs key kl idle most l [] from ⟨fun y1 y2 => absurd ⟨y1, y2⟩ h, fun _ => rfl⟩)
  go_enter Tryd.func7, Tryd.ntmps7
  go_upto_region 1 with fail
  refine wp_world (unhide HW) ?_
  clear HW
  go_wp2_with fail
  refine (sGoodC_any ka kl kc idle most _).mono ?_
  rintro e w2 ⟨rfl, hb2⟩
  by_cases g : GC kl idle most
  rotate_left
  · have g2 : decide (GC kl idle most) = false := decide_eq_false g
    rw [g2]
    have B2 := hide (bTr (unhide B1) hb2)
    have NN := hide (unhide N (fun q => g q.1))
    clear hb2 g g2 x0 x1 x2 xz
    go_wp2_with fail
    go_ret
    exact ⟨⟨_, [], rfl, unhide NN, World.ownsRow_nil _ _ _ _⟩, unhide B2⟩
  rw [decide_eq_true g]
  have B2 := hide (bTr (unhide B1) hb2)
  have R2 := hide ((unhide R1).keep hb2)
  have S2 := hide ((unhide HS).keep hb2)
  have K2 := hide (((unhide HK).keep hb2).mono hb2.size)
  clear hb2 R1 HS HK x0 x1 x2 xz B1
  have G := hide g
  clear g
  by_cases h200 : 200 < len
  · have NN := hide (unhide N (fun q => by have := q.2; have := unhide LL; omega))
    go_wp2_with fail
    go_ret
    exact ⟨⟨_, [], rfl, unhide NN, World.ownsRow_nil _ _ _ _⟩, unhide B2⟩
  have l200 : len ≤ 200 := by omega
  have k64 := (unhide G).1
  have qr := hide (sRun_any ka kl kc key idle most a len cap l w2 (unhide K2) (by omega) (unhide G).2.1 (unhide G).2.2 l200 (unhide S2) (unhide HO))
  have x0 := (unhide R2).at (o := 0) (v := .slice ka kl kc) rfl
  have x1 := (unhide R2).at (o := 1) (v := .int .i64 idle) rfl
  have x2 := (unhide R2).at (o := 2) (v := .int .i64 most) rfl
  have xz := (unhide R2).lt
  go_wp2_with fail
  refine (unhide qr).mono ?_
  rintro e w3 ⟨x', rs, v, vs, P, rfl, hT⟩
  clear qr x0 x1 x2 xz
  go_wp2_with fail
  go_ret
  have T := unhide hT
  refine ⟨⟨v, rs, rfl, ⟨fun _ _ => ⟨x', by have q := T.run; rw [unhide LL, List.take_length] at q; exact q⟩, fun n => absurd ⟨unhide G, by rw [← unhide LL]; exact l200⟩ n⟩, ?_⟩, ?_⟩
  · rw [T.len]
    exact own_lo T.own (by have := (unhide B2).size; omega)
  · exact bTr (unhide B2) T.sp.bel
end Go.Proofs.YtppkgcedkdeccaaDoor
/- Sessions: who is signed in, by the specification. -/
namespace Go.Proofs.YtppkgcedkdeccaaDoor
set_option linter.unusedSimpArgs false
set_option linter.unusedVariables false
set_option maxRecDepth 20000
open Go.RowKit Go.Maps

def liveR (x : SsT) (t : Int) (s : SxT) : Bool := !s.dead && !overS x s t
def sigR (x : SsT) (t : Int) (l : List SxT) : List SessReplyT := (l.filter (liveR x t)).map toldR
theorem sigR_snoc (x : SsT) (t : Int) (l : List SxT) (s : SxT) : sigR x t (l ++ [s]) = sigR x t l ++ (if liveR x t s = true then [toldR s] else []) := by
  unfold sigR
  rw [List.filter_append, List.map_append]
  by_cases h : liveR x t s = true
  · rw [if_pos h]; simp [List.filter, h]
  · rw [if_neg h]; simp [List.filter, h]
theorem sigR_len (x : SsT) (t : Int) (l : List SxT) : (sigR x t l).length ≤ l.length := by
  unfold sigR
  rw [List.length_map]
  exact List.length_filter_le _ _
structure SigIn (key : List UInt8) (kl : Nat) (idle most : Int) (l : List SessEventT) (t : Int) (r : List SessReplyT) : Prop where
  yes : GC kl idle most → l.length ≤ 200 → ∃ x' rs, RunS (xS0 key idle most) l x' rs ∧ x'.list.length ≤ 1000 ∧ r = if t < x'.now then [] else sigR x' t x'.list
  no : ¬ (GC kl idle most ∧ l.length ≤ 200) → r = []
theorem SigIn.uniq {key : List UInt8} {kl : Nat} {idle most : Int} {l : List SessEventT} {t : Int} {r r' : List SessReplyT} (h : SigIn key kl idle most l t r) (h' : SigIn key kl idle most l t r') : r = r' := by
  by_cases g : GC kl idle most ∧ l.length ≤ 200
  · obtain ⟨x1, _, h1, _, e1⟩ := h.yes g.1 g.2
    obtain ⟨x2, _, h2, _, e2⟩ := h'.yes g.1 g.2
    have e := (h1.uniq h2).1
    subst e
    rw [e1, e2]
  · rw [h.no g, h'.no g]
theorem SigIn.len {key : List UInt8} {kl : Nat} {idle most : Int} {l : List SessEventT} {t : Int} {r : List SessReplyT} (h : SigIn key kl idle most l t r) : r.length ≤ 1000 := by
  by_cases g : GC kl idle most ∧ l.length ≤ 200
  · obtain ⟨x1, _, _, h1, e1⟩ := h.yes g.1 g.2
    rw [e1]
    by_cases q : t < x1.now
    · rw [if_pos q]; simp
    · rw [if_neg q]; exact Nat.le_trans (sigR_len _ _ _) h1
  · rw [h.no g]; simp
/-- What lies behind m sessions. -/
structure SgR (w3 w' : World) (x : SsT) (t : Int) (m : Nat) (v : Value) : Prop where
  bel : Below w3.heap.size w3 w'
  own : w'.ownsRow w3.heap.size 31 4 v (sigR x t (x.list.take m)).length (SessReplysV (sigR x t (x.list.take m)))
section
variable {w3 wr w2 w4 : World} {x : SsT} {t : Int} {m : Nat} {v u : Value}
theorem SgR.skip (h : SgR w3 wr x t m v) (hm : m < x.list.length) (hl : liveR x t x.list[m] = false) (hb : Below wr.heap.size wr w2) : SgR w3 w2 x t (m + 1) v := by
  have e : sigR x t (x.list.take (m + 1)) = sigR x t (x.list.take m) := by
    rw [List.take_succ_eq_append_getElem hm, sigR_snoc, if_neg (by rw [hl]; simp), List.append_nil]
  refine ⟨bTr h.bel hb, ?_⟩
  rw [e]
  exact own_blk h.own (fun g hg => hb.block g (h.own.lt g hg).2)
theorem SgR.more (h : SgR w3 wr x t m v) (hm : m < x.list.length) (hl : liveR x t x.list[m] = true) (hb : Below wr.heap.size wr w2) (o : Obj)
    (hown : w4.ownsRow w3.heap.size 31 4 u ((sigR x t (x.list.take m)).length + 1) (SessReplysV (sigR x t (x.list.take m)) ++ encSessReply (toldR x.list[m]))) (hg : (w2.alloc o).grownBy w4 v.ownBlock) : SgR w3 w4 x t (m + 1) u := by
  have e : sigR x t (x.list.take (m + 1)) = sigR x t (x.list.take m) ++ [toldR x.list[m]] := by
    rw [List.take_succ_eq_append_getElem hm, sigR_snoc, if_pos hl]
  have ow2 := own_blk h.own (fun g hg => hb.block g (h.own.lt g hg).2)
  have ow2a := ow2.alloc o
  have b2 : Below w3.heap.size w3 (w2.alloc o) := bAl (bTr h.bel hb) o
  refine ⟨⟨hg.os.trans b2.os, hg.tape.trans b2.tape, hg.output.trans b2.output, Nat.le_trans b2.size hg.size, fun g hgl => ?_⟩, ?_⟩
  · rw [hg.block g (by have := b2.size; omega) (fun e => by have := (ow2a.lt g e.symm).1; omega)]
    exact b2.block g hgl
  · rw [e, SessReplysV_snoc]
    simpa using hown
end
set_option maxHeartbeats 8000000 in
theorem sSignedIn_v (ka : Option Addr) (kl kc : Nat) (key : List UInt8) (idle most : Int) (a : Option Addr) (len cap : Nat) (l : List SessEventT) (t : Int) (w : World) (hk : D.SlB w w.heap.size ka kl key) (hl : len ≤ maxLen) (hs : SlSessEvent w a len l) (hok : ∀ q ∈ l, SessEventT.Ok q) :
    Calls Tryd.prog 9 #[.agg #[.slice ka kl kc, .int .i64 idle, .int .i64 most], .slice a len cap, .int .i64 t] w fun e w' => (∃ v r, e = .returned v ∧ SigIn key kl idle most l t r ∧ w'.ownsRow w.heap.size 31 4 v r.length (SessReplysV r)) ∧ Below w.heap.size w w' := by
  unfold maxLen at hl
  have LL := hide hs.1
  obtain ⟨i0, hi0, hz⟩ := Option.map_eq_some_iff.1 info_SessReply
  simp only [Prod.mk.injEq] at hz
  obtain ⟨hz0, hz1, hz2⟩ := hz
  have HI := hide (And.intro hi0 (And.intro hz0 (And.intro hz1 hz2)))
  obtain ⟨W1, hW1⟩ : ∃ W, W = w.alloc (.cells #[.slice ka kl kc, .int .i64 idle, .int .i64 most] 24) := ⟨_, rfl⟩
  have b1 : Below w.heap.size w W1 := by rw [hW1]; exact bAl (Below.refl _ _) _
  have R1 := hide (show RowIs W1 w.heap.size #[.slice ka kl kc, .int .i64 idle, .int .i64 most] 24 by rw [hW1]; exact RowIs.new _ _ _)
  have HW := hide hW1.symm
  have B1 := hide b1
  have HS := hide (hs.keep b1)
  have HO := hide hok
  have HK := hide ((hk.keep b1).mono b1.size)
  clear hW1 b1 hs hok hk hi0 hz0 hz1 hz2
  have x0 := (unhide R1).at (o := 0) (v := .slice ka kl kc) rfl
  have x1 := (unhide R1).at (o := 1) (v := .int .i64 idle) rfl
  have x2 := (unhide R1).at (o := 2) (v := .int .i64 most) rfl
  have xz := (unhide R1).lt
  have N := hide (fun (h : ¬ (GC kl idle most ∧ l.length ≤ 200)) => show SigIn key kl idle most l t [] from ⟨fun y1 y2 => absurd ⟨y1, y2⟩ h, fun _ => rfl⟩)
  go_enter Tryd.func9, Tryd.ntmps9
  go_upto_region 1 with fail
  refine wp_world (unhide HW) ?_
  clear HW
  go_wp2_with fail
  refine (sGoodC_any ka kl kc idle most _).mono ?_
  rintro e w2 ⟨rfl, hb2⟩
  by_cases g : GC kl idle most
  rotate_left
  · have g2 : decide (GC kl idle most) = false := decide_eq_false g
    rw [g2]
    have B2 := hide (bTr (unhide B1) hb2)
    have NN := hide (unhide N (fun q => g q.1))
    clear hb2 g g2 x0 x1 x2 xz
    go_wp2_with fail
    go_ret
    exact ⟨⟨_, [], rfl, unhide NN, World.ownsRow_nil _ _ _ _⟩, unhide B2⟩
  rw [decide_eq_true g]
  have B2 := hide (bTr (unhide B1) hb2)
  have R2 := hide ((unhide R1).keep hb2)
  have S2 := hide ((unhide HS).keep hb2)
  have K2 := hide (((unhide HK).keep hb2).mono hb2.size)
  clear hb2 R1 HS HK x0 x1 x2 xz B1
  have G := hide g
  clear g
  by_cases h200 : 200 < len
  · have NN := hide (unhide N (fun q => by have := q.2; have := unhide LL; omega))
    go_wp2_with fail
    go_ret
    exact ⟨⟨_, [], rfl, unhide NN, World.ownsRow_nil _ _ _ _⟩, unhide B2⟩
  have l200 : len ≤ 200 := by omega
  have k64 := (unhide G).1
  have qr := hide (sRun_any ka kl kc key idle most a len cap l w2 (unhide K2) (by omega) (unhide G).2.1 (unhide G).2.2 l200 (unhide S2) (unhide HO))
  have x0 := (unhide R2).at (o := 0) (v := .slice ka kl kc) rfl
  have x1 := (unhide R2).at (o := 1) (v := .int .i64 idle) rfl
  have x2 := (unhide R2).at (o := 2) (v := .int .i64 most) rfl
  have xz := (unhide R2).lt
  go_wp2_with fail
  refine (unhide qr).mono ?_
  rintro e w3 ⟨x', rs, v, vs, P, rfl, hT⟩
  clear qr x0 x1 x2 xz
  have B3 := hide (bTr (unhide B2) (unhide hT).sp.bel)
  have RU := hide (show ∃ rs, RunS (xS0 key idle most) l x' rs ∧ x'.list.length ≤ 1000 from ⟨rs, by have q := (unhide hT).run; rwa [unhide LL, List.take_length] at q, Nat.le_trans (unhide hT).ok.ln (unhide hT).ok.gv⟩)
  have SI := hide (fun (r : List SessReplyT) (hr : r = if t < x'.now then [] else sigR x' t x'.list) => show SigIn key kl idle most l t r from ⟨fun _ _ => by obtain ⟨rs, q1, q2⟩ := unhide RU; exact ⟨x', rs, q1, q2, hr⟩, fun n => absurd ⟨unhide G, by rw [← unhide LL]; exact l200⟩ n⟩)
  have OK := hide (unhide hT).ok
  have SP := hide (unhide hT).sp
  clear hT N B2 R2 S2 K2
  obtain ⟨va, vc, rfl, hva⟩ := (unhide SP).slice
  have HV := hide hva
  clear hva
  have c3 := (unhide SP).box.at (o := 3) (v := .int .i64 x'.now) rfl
  have c5 := (unhide SP).box.at (o := 5) (v := .slice va P.length vc) rfl
  have cz := (unhide SP).box.lt
  by_cases hn : t < x'.now
  · have q := hide (unhide SI [] (by rw [if_pos hn]))
    go_wp2_with fail
    go_ret
    exact ⟨⟨_, [], rfl, unhide q, World.ownsRow_nil _ _ _ _⟩, unhide B3⟩
  have QI := hide (unhide SI _ (by rw [if_neg hn]))
  have lx : x'.list.length = P.length := by rw [(unhide SP).lst]; simp
  have LX := hide lx
  have p1000 := (unhide SP).lenP (unhide OK)
  have T0 := hide (show SgR w3 w3 x' t 0 (.slice none 0 0) from ⟨Below.refl _ _, by rw [List.take_zero]; exact World.ownsRow_nil _ _ _ _⟩)
  clear lx SI
  go_wp2_with fail
  clear c3 c5 cz
  go_loopw [9, 11, 37] (fun v _ q w' => ∃ m : Nat, m ≤ P.length ∧ q = .int .i64 m ∧ Hid (SgR w3 w' x' t m v)) (fun _ _ q _ => P.length - (intOf q).toNat)
  case atStart => exact ⟨0, Nat.zero_le _, rfl, T0⟩
  case round =>
    obtain ⟨m, hm9, rfl, hT⟩ := hrel
    clear T0
    by_cases hlt : m < P.length
    · obtain ⟨g, rfl, hg1, hg2⟩ := unhide HV (by omega)
      have sp := (unhide SP).keep (show Below w3.heap.size w3 wr from (unhide hT).bel)
      have hmx : m < x'.list.length := by rw [unhide LX]; exact hlt
      have ep : P[m].s = x'.list[m] := by simp only [(unhide SP).lst, List.getElem_map]
      have okx := sp.okP (unhide OK) hlt
      have c0 := sp.cells hlt (j := 0) rfl
      have c1 := sp.cells hlt (j := 1) rfl
      have c2 := sp.cells hlt (j := 2) rfl
      have c3 := sp.cells hlt (j := 3) rfl
      have c4 := sp.cells hlt (j := 4) rfl
      have c5 := sp.cells hlt (j := 5) rfl
      have c6 := sp.cells hlt (j := 6) rfl
      simp only [Nat.add_zero] at c0
      have hzb : g < wr.heap.size := Nat.lt_of_lt_of_le hg1 (unhide hT).bel.size
      have idl := sp.ids m hlt
      have hne := okx.ne
      have hil : P[m].s.ids.length ≤ 1000 := Nat.le_trans okx.il (unhide OK).gv
      have lst : wr.cell? ⟨P[m].g, P[m].s.ids.length - 1, none⟩ = some (.string (lastI P[m].s.ids)) := by
        have hp := List.length_pos_iff.2 hne
        rw [idl.cellAt _ (by omega)]
        rw [List.getElem?_map, lastI_get hne]
        rfl
      have gz := (idl.lt P[m].g rfl).2
      have h1 := okx.lg
      have h2 := okx.la
      have h3 : 0 ≤ x'.idle ∧ x'.idle ≤ 1000000 := by have := (unhide OK).id; omega
      have h4 : 0 ≤ x'.most ∧ x'.most ≤ 1000000 := by have := (unhide OK).mo; omega
      have EP := hide ep
      have SPR := hide sp
      clear ep okx idl sp
      obtain ⟨p, hp⟩ : ∃ p, P[m] = p := ⟨_, rfl⟩
      rw [hp] at c0 c1 c2 c3 c4 c5 c6 lst gz h1 h2 hil hne EP
      clear hp
      obtain ⟨W4, hW4⟩ : ∃ W, W = wr.alloc (.cells (xV (some ⟨p.g, 0, none⟩) p.s.ids.length p.c p.s) 79) := ⟨_, rfl⟩
      have b4 : Below wr.heap.size wr W4 := by rw [hW4]; exact bAl (Below.refl _ _) _
      have R4 := hide (show RowIs W4 wr.heap.size (xV (some ⟨p.g, 0, none⟩) p.s.ids.length p.c p.s) 79 by rw [hW4]; exact RowIs.new _ _ _)
      have HW4 := hide hW4.symm
      have B4 := hide b4
      have L4 := hide (cellB b4 gz lst)
      have G4 := hide (Nat.lt_of_lt_of_le gz b4.size)
      have qo := hide (sOver_any _ p.s.ids.length p.c (some ⟨p.g, 0, none⟩) ka kl kc x' p.s _ t W4 ((unhide SPR).keep b4).box h1 h2 h3 h4)
      have liv := hide (show liveR x' t x'.list[m] = (!p.s.dead && !overS x' p.s t) by rw [← unhide EP]; rfl)
      clear hW4 b4 lst gz h1 h2 h3 h4 SPR
      unfold xV at HW4 qo R4
      go_upto_region 10 with fail
      refine wp_world (unhide HW4) ?_
      clear c0 c1 c2 c3 c4 c5 c6 hzb HW4
      have k0 := (unhide R4).at (o := 0) (v := .slice (some ⟨p.g, 0, none⟩) p.s.ids.length p.c) rfl
      have k1 := (unhide R4).at (o := 1) (v := .string p.s.user) rfl
      have k2 := (unhide R4).at (o := 2) (v := .string p.s.device) rfl
      have k3 := (unhide R4).at (o := 3) (v := .int .i64 p.s.level) rfl
      have k4 := (unhide R4).at (o := 4) (v := .int .i64 p.s.login) rfl
      have k5 := (unhide R4).at (o := 5) (v := .int .i64 p.s.last) rfl
      have k6 := (unhide R4).at (o := 6) (v := .bool p.s.dead) rfl
      have kz := (unhide R4).lt
      cases hd : p.s.dead with
      | true =>
        rw [hd] at k6 liv
        have hN := hide ((unhide hT).skip hmx (by rw [unhide liv]; rfl) (unhide B4))
        clear k0 k1 k2 k3 k4 k5 hd liv qo
        go_wp2_with fail
        exact ⟨⟨m + 1, by omega, by go_num, hN⟩, by simp [intOf]; omega⟩
      | false =>
        rw [hd] at k6 liv qo
        have HD := hide hd
        have R4' := hide (show RowIs W4 wr.heap.size #[.slice (some ⟨p.g, 0, none⟩) p.s.ids.length p.c, .string p.s.user, .string p.s.device, .int .i64 p.s.level, .int .i64 p.s.login, .int .i64 p.s.last, .bool false] 79 by have := unhide R4; rwa [hd] at this)
        clear hd R4
        go_wp2_with fail
        refine (unhide qo).mono ?_
        rintro e w5 ⟨rfl, hb5⟩
        have R5 := hide ((unhide R4').keep hb5)
        have B5 := hide (bTr (unhide B4) hb5)
        have L5 := hide (cellB hb5 (unhide G4) (unhide L4))
        have G5 := hide (Nat.lt_of_lt_of_le (unhide G4) hb5.size)
        clear k0 k1 k2 k3 k4 k5 k6 kz hb5 qo R4' L4 G4 B4
        cases ho : overS x' p.s t with
        | true =>
          rw [ho] at liv
          have hN := hide ((unhide hT).skip hmx (by rw [unhide liv]; rfl) (unhide B5))
          clear ho liv
          go_wp2_with fail
          exact ⟨⟨m + 1, by omega, by go_num, hN⟩, by simp [intOf]; omega⟩
        | false =>
          rw [ho] at liv
          have LV := hide (show liveR x' t x'.list[m] = true by rw [unhide liv]; rfl)
          clear ho liv
          have k0 := (unhide R5).at (o := 0) (v := .slice (some ⟨p.g, 0, none⟩) p.s.ids.length p.c) rfl
          have k1 := (unhide R5).at (o := 1) (v := .string p.s.user) rfl
          have k2 := (unhide R5).at (o := 2) (v := .string p.s.device) rfl
          have k3 := (unhide R5).at (o := 3) (v := .int .i64 p.s.level) rfl
          have k4 := (unhide R5).at (o := 4) (v := .int .i64 p.s.login) rfl
          have k5 := (unhide R5).at (o := 5) (v := .int .i64 p.s.last) rfl
          have k6 := (unhide R5).at (o := 6) (v := .bool false) rfl
          have kz := (unhide R5).lt
          have qt := hide (sTold_any p.g p.s.ids.length p.c p.s w5 rfl hne (by omega) (unhide G5) (unhide L5))
          unfold xV at qt
          rw [unhide HD] at qt
          go_wp2_with fail
          refine (unhide qt).mono ?_
          rintro e w6 ⟨rfl, hb6⟩
          have B6 := hide (bTr (unhide B5) hb6)
          have O6 := hide (own_blk (unhide hT).own (fun g hg => (unhide B6).block g ((unhide hT).own.lt g hg).2))
          have z6 : w3.heap.size < w6.heap.size := by have h1 := (unhide hT).bel.size; have h2 := hb6.size; omega
          have CN := hide (fun o => cells_new w6 (encR (toldR p.s)) 31 o)
          have z7 : (sigR x' t (x'.list.take m)).length ≤ 1000 := Nat.le_trans (sigR_len _ _ _) (by rw [List.length_take]; omega)
          clear k0 k1 k2 k3 k4 k5 k6 kz hb6 qt R5 L5 G5 B5
          have EN := hide (unhide EP)
          obtain ⟨r, hr⟩ : ∃ r, toldR p.s = r := ⟨_, rfl⟩
          rw [hr] at CN
          rw [hr]
          have HR := hide (show toldR x'.list[m] = r by rw [← unhide EP]; exact hr)
          have er : encR r = #[.int .i64 r.f0, .string r.f1, .string r.f2, .int .i64 r.f3] := rfl
          rw [er]
          clear hr
          obtain ⟨n, hn⟩ : ∃ n, (sigR x' t (x'.list.take m)).length = n := ⟨_, rfl⟩
          rw [hn] at O6 z7
          have HNN := hide hn
          clear hn
          go_wp2_with (at_builtin; refine wpList_append_own _ rfl _ _ 28 rfl (w3.heap.size) 31 i0 (.agg #[.int .i64 0, .string ByteArray.empty, .string ByteArray.empty, .int .i64 0]) 4 48 Tryd.underlying28 (unhide HI).1 (unhide HI).2.1 (unhide HI).2.2.1 (unhide HI).2.2.2 rfl (by decide) _ _ _ rfl ((unhide O6).alloc _) ⟨w6.heap.size, 0, none⟩ 1 1 (encSessReply r) rfl rfl (unhide CN _ rfl) (encSessReply_one _) (by unfold maxLen; omega) (by omega) (by simp; omega) ?_; intro v' w7 hown hgrow _)
          have hN := (unhide hT).more hmx (unhide LV) (unhide B6) _ (by rw [unhide HNN, unhide HR]; exact hown) hgrow
          exact ⟨⟨m + 1, by omega, by go_num, hide hN⟩, by simp [intOf]; omega⟩
    · have em : m = P.length := by omega
      subst em
      go_wp2_with fail
      go_ret
      have T := unhide hT
      have ow := T.own
      rw [← unhide LX, List.take_length] at ow
      exact ⟨⟨_, _, rfl, unhide QI, own_lo ow (unhide B3).size⟩, bTr (unhide B3) T.bel⟩
end Go.Proofs.YtppkgcedkdeccaaDoor
/- (*impl.session).isDead: a select of two channels with a default, in one goroutine. -/
namespace Go.Proofs.YtppkgcedkdeccaaDoor
open Go.Conc Go.RowKit

section
variable {P : Program} {fr : Frame} {cs : List Frame} {w w₁ : World} {es : Array Event} {c1 c2 cap1 s1 r1 cap2 s2 r2 : Nat} {t1 t2 : Bool} {z1 z2 : Value}
theorem two_shut (h : stepG P true (G fr cs) w = .comm (G fr cs) #[rcase c1 z1, rcase c2 z2] false .select w₁ es) (h1 : w₁.heap[c1]? = some (.chan cap1 #[] true s1 r1 t1)) (h2 : w₁.heap[c2]? = some (.chan cap2 #[] true s2 r2 t2)) :
    (step P (solo (G fr cs) w) = .next (solo (G (fr.finish (commResult #[rcase c1 z1, rcase c2 z2] .select 0 z1 false)) cs) w₁.drew)) ∨
    (step P (solo (G fr cs) w) = .next (solo (G (fr.finish (commResult #[rcase c1 z1, rcase c2 z2] .select 1 z2 false)) cs) w₁.drew)) := by
  have e1 : ways w₁ #[ph] (rcase c1 z1) = [.closed] := by simp [ways, rcase, h1, partners_lone]
  have e2 : ways w₁ #[ph] (rcase c2 z2) = [.closed] := by simp [ways, rcase, h2, partners_lone]
  have ill : (#[rcase c1 z1, rcase c2 z2] : Array CommCase).any (illMade w₁) = false := any_ill (by
    intro cc hc
    simp at hc
    rcases hc with rfl | rfl
    · exact made_recv z1 h1
    · exact made_recv z2 h2)
  have key := runT_crowd_comm (P := P) (gs := #[G fr cs]) (sl := none) (i := 0) (g := G fr cs) rfl h
  rw [step, stepT_solo rfl, solo_eq_crowd, key]
  have hr : ((#[rcase c1 z1, rcase c2 z2] : Array CommCase).zipIdx.toList.map fun (c, k) => (k, c, ways w₁ (#[G fr cs].setIfInBounds 0 ph) c)).filter (fun (_, _, ws) => !ws.isEmpty) = [(0, rcase c1 z1, [.closed]), (1, rcase c2 z2, [.closed])] := by
    simp [e1, e2]
  unfold communicate
  simp only [hr]
  rw [if_neg (by rw [Bool.not_eq_true]; exact ill)]
  rcases Nat.mod_two_eq_zero_or_one (w₁.tape w₁.drawn (.select 2)) with e | e
  · left
    simp [choose, Sem.run, Question.forced, Question.cut, bind, Sem.bind, pure, rcase, crowd, e, solo]
    rfl
  · right
    simp [choose, Sem.run, Question.forced, Question.cut, bind, Sem.bind, pure, rcase, crowd, e, solo]
    rfl
theorem LoneTo.two {Q : Goroutine → World → Prop} (h : stepG P true (G fr cs) w = .comm (G fr cs) #[rcase c1 z1, rcase c2 z2] false .select w₁ es) (h1 : w₁.heap[c1]? = some (.chan cap1 #[] true s1 r1 t1)) (h2 : w₁.heap[c2]? = some (.chan cap2 #[] true s2 r2 t2))
    (k0 : LoneTo P Q (G (fr.finish (commResult #[rcase c1 z1, rcase c2 z2] .select 0 z1 false)) cs) w₁.drew) (k1 : LoneTo P Q (G (fr.finish (commResult #[rcase c1 z1, rcase c2 z2] .select 1 z2 false)) cs) w₁.drew) : LoneTo P Q (G fr cs) w := by
  rcases two_shut h h1 h2 with hst | hst
  · exact LoneTo.step hst k0
  · exact LoneTo.step hst k1
end

theorem no_two {w : World} {a b : CommCase} (h1 : NoWay w a) (h2 : NoWay w b) : ∀ cc ∈ (#[a, b] : Array CommCase), NoWay w cc := by
  intro cc hc
  simp at hc
  rcases hc with rfl | rfl
  · exact h1
  · exact h2
theorem no_but0 {w : World} {a b : CommCase} (h2 : NoWay w b) : ∀ (m : Nat) (c' : CommCase), m ≠ 0 → (#[a, b] : Array CommCase)[m]? = some c' → NoWay w c'
  | 0, _, hm, _ => absurd rfl hm
  | 1, c', _, hc => by
    simp at hc
    subst hc
    exact h2
  | m + 2, c', _, hc => by simp at hc
theorem no_but1 {w : World} {a b : CommCase} (h1 : NoWay w a) : ∀ (m : Nat) (c' : CommCase), m ≠ 1 → (#[a, b] : Array CommCase)[m]? = some c' → NoWay w c'
  | 0, c', _, hc => by
    simp at hc
    subst hc
    exact h1
  | 1, _, hm, _ => absurd rfl hm
  | m + 2, c', _, hc => by simp at hc

/-- The channel at block k is shut, or isn't. -/
def ChanAt (w : World) (k : Nat) (c : Bool) : Prop := ∃ s r : Nat, w.heap[k]? = some (.chan 0 #[] c s r false)

def IsDeadQ (f : FuncId) (cs : List Frame) (P : Program) (w : World) (D : Bool) (g' : Goroutine) (w' : World) : Prop := ∃ e fr, g' = G fr cs ∧ (e = .returned (.bool D) ∧ Below w.heap.size w w') ∧ fr.fn = f ∧ fr.leaving P w' e
set_option maxRecDepth 100000 in
set_option maxHeartbeats 2000000 in
theorem isDead_any (b en ev : Nat) (ce cd : Bool) (w : World) (c6 : w.cell? ⟨b, 6, none⟩ = some (.chan (some en))) (c7 : w.cell? ⟨b, 7, none⟩ = some (.chan (some ev))) (he : ChanAt w en ce) (hv : ChanAt w ev cd) :
    Calls Tryd.prog 29 #[.pointer (some ⟨b, 0, none⟩)] w fun e w' => e = .returned (.bool (ce || cd)) ∧ Below w.heap.size w w' := by
  obtain ⟨s1, r1, he⟩ := he
  obtain ⟨s2, r2, hv⟩ := hv
  refine calls_of_loneTo fun cs => ?_
  have e : Frame.enter Tryd.prog 29 #[.pointer (some ⟨b, 0, none⟩)] .normal = (base 29).at ⟨#[.pointer (some ⟨b, 0, none⟩), undef, undef, undef, undef, undef, undef, undef, undef, undef, undef, undef, undef, undef, undef], []⟩ [.code (Tryd.f29.body.getD .skip)] := by
    simp [Frame.enter, Frame.at, Tryd.func29, base, Tryd.f29]
    try rfl
  rw [e]
  refine LoneTo.goes (n := 40) ?_
  simp only [Tryd.f29, Option.getD_some]
  s_c stepG_seq
  s_reg
  s_op
  s_c stepG_region_end
  s_c stepG_seq
  s_c stepG_seq
  s_c stepG_seq
  s_reg
  s_op
  s_op
  s_op
  s_op
  s_c stepG_region_end
  s_reg
  s_op
  s_op
  s_op
  s_op
  s_c stepG_region_end
  s_c stepG_seq
  s_reg
  s_stop
  have hcr0 : commResult #[rcase en (.agg #[]), rcase ev (.agg #[])] .select 0 (.agg #[]) false = .tuple #[.int .i64 0, .bool false, .agg #[], .agg #[]] := by simp [commResult, rcase, goInt]
  have hcr1 : commResult #[rcase en (.agg #[]), rcase ev (.agg #[])] .select 1 (.agg #[]) false = .tuple #[.int .i64 1, .bool false, .agg #[], .agg #[]] := by simp [commResult, rcase, goInt]
  have hcrm : commResult #[rcase en (.agg #[]), rcase ev (.agg #[])] .select (-1) undef false = .tuple #[.int .i64 (-1), .bool false, .agg #[], .agg #[]] := by simp [commResult, rcase, goInt]
  have hcomm := fun (fr : Frame) (h : stepG Tryd.prog true (G fr cs) w = .comm (G fr cs) #[rcase en (.agg #[]), rcase ev (.agg #[])] false .select w #[]) => h
  clear hcomm e
  have hcs0 : commResult #[rcase en (.agg #[]), rcase ev (.agg #[])] .select ((0 : Nat) : Int) (.agg #[]) false = .tuple #[.int .i64 0, .bool false, .agg #[], .agg #[]] := hcr0
  have hcs1 : commResult #[rcase en (.agg #[]), rcase ev (.agg #[])] .select ((1 : Nat) : Int) (.agg #[]) false = .tuple #[.int .i64 1, .bool false, .agg #[], .agg #[]] := hcr1
  cases ce <;> cases cd
  · refine LoneTo.step (step_lone_sel_default (stepG_comm (cases := #[rcase en (.agg #[]), rcase ev (.agg #[])]) (blocking := false) (shape := .select) (w' := w) rfl rfl (by decide) (by simp [go_sem, execOp, rcase, Act.eval])) (no_two (noWay_recv he) (noWay_recv hv))) ?_
    rw [hcrm]
    rw [Frame.finish_at]
    walk_nrm
    refine LoneTo.goes (n := 30) ?_
    s_op
    s_op
    s_op
    s_c stepG_region_end
    s_c stepG_block
    s_cond false
    s_cond false
    s_c stepG_seq
    s_reg
    s_op
    s_c stepG_region_end
    s_c stepG_ret'
    s_stop
    refine LoneTo.done ⟨.returned (.bool false), _, rfl, ⟨rfl, Below.refl _ _⟩, rfl, rfl, rfl, rfl, _, Tryd.func29, by simp [results, Tryd.f29, Frame.at]⟩
  · refine LoneTo.step (step_lone_sel_recv_shut (k := 1) (z := .agg #[]) (stepG_comm (cases := #[rcase en (.agg #[]), rcase ev (.agg #[])]) (blocking := false) (shape := .select) (w' := w) rfl rfl (by decide) (by simp [go_sem, execOp, rcase, Act.eval])) rfl (no_but1 (noWay_recv he)) hv) ?_
    rw [hcs1]
    rw [Frame.finish_at]
    walk_nrm
    refine LoneTo.goes (n := 30) ?_
    s_op
    s_op
    s_op
    s_c stepG_region_end
    s_c stepG_block
    s_cond false
    s_cond true
    s_c stepG_skip
    s_c stepG_inBlock
    s_c stepG_seq
    s_reg
    s_op
    s_c stepG_region_end
    s_c stepG_ret'
    s_stop
    refine LoneTo.done ⟨.returned (.bool true), _, rfl, ⟨rfl, Below.refl _ _⟩, rfl, rfl, rfl, rfl, _, Tryd.func29, by simp [results, Tryd.f29, Frame.at]⟩
  · refine LoneTo.step (step_lone_sel_recv_shut (k := 0) (z := .agg #[]) (stepG_comm (cases := #[rcase en (.agg #[]), rcase ev (.agg #[])]) (blocking := false) (shape := .select) (w' := w) rfl rfl (by decide) (by simp [go_sem, execOp, rcase, Act.eval])) rfl (no_but0 (noWay_recv hv)) he) ?_
    rw [hcs0]
    rw [Frame.finish_at]
    walk_nrm
    refine LoneTo.goes (n := 30) ?_
    s_op
    s_op
    s_op
    s_c stepG_region_end
    s_c stepG_block
    s_cond true
    s_c stepG_skip
    s_c stepG_inBlock
    s_c stepG_seq
    s_reg
    s_op
    s_c stepG_region_end
    s_c stepG_ret'
    s_stop
    refine LoneTo.done ⟨.returned (.bool true), _, rfl, ⟨rfl, Below.refl _ _⟩, rfl, rfl, rfl, rfl, _, Tryd.func29, by simp [results, Tryd.f29, Frame.at]⟩
  · refine LoneTo.two (stepG_comm (cases := #[rcase en (.agg #[]), rcase ev (.agg #[])]) (blocking := false) (shape := .select) (w' := w) rfl rfl (by decide) (by simp [go_sem, execOp, rcase, Act.eval])) he hv ?_ ?_
    · rw [hcr0]
      rw [Frame.finish_at]
      walk_nrm
      refine LoneTo.goes (n := 30) ?_
      s_op
      s_op
      s_op
      s_c stepG_region_end
      s_c stepG_block
      s_cond true
      s_c stepG_skip
      s_c stepG_inBlock
      s_c stepG_seq
      s_reg
      s_op
      s_c stepG_region_end
      s_c stepG_ret'
      s_stop
      refine LoneTo.done ⟨.returned (.bool true), _, rfl, ⟨rfl, (Below.refl _ _).drew⟩, rfl, rfl, rfl, rfl, _, Tryd.func29, by simp [results, Tryd.f29, Frame.at]⟩
    · rw [hcr1]
      rw [Frame.finish_at]
      walk_nrm
      refine LoneTo.goes (n := 30) ?_
      s_op
      s_op
      s_op
      s_c stepG_region_end
      s_c stepG_block
      s_cond false
      s_cond true
      s_c stepG_skip
      s_c stepG_inBlock
      s_c stepG_seq
      s_reg
      s_op
      s_c stepG_region_end
      s_c stepG_ret'
      s_stop
      refine LoneTo.done ⟨.returned (.bool true), _, rfl, ⟨rfl, (Below.refl _ _).drew⟩, rfl, rfl, rfl, rfl, _, Tryd.func29, by simp [results, Tryd.f29, Frame.at]⟩
end Go.Proofs.YtppkgcedkdeccaaDoor
