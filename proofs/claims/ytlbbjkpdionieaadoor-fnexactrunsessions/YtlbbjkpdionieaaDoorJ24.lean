/- LSt, LSd, LPa, one behind the other. -/
import Derived.Test.YtlbbjkpdionieaaDoorJ23
import Derived.Laws.AppendOwn
import Derived.Test.YtlbbjkpdionieaaDoorJ5
import Derived.Conc.LoneSelectN
import Derived.Conc.LoneSelect
import Derived.KernelRfl
import Derived.Laws.Rows
import Derived.Test.YtlbbjkpdionieaaDoorJ8
import Derived.BigQuiet
import Derived.Conc.EventLaws
import Derived.Conc.SmallLaws
/- Sessions: what is told is one; RunSessions by the specification. -/
namespace Go.Proofs.YtlbbjkpdionieaaDoor
set_option linter.unusedSimpArgs false
set_option linter.unusedVariables false
set_option maxRecDepth 20000
open Go.RowKit Go.Maps


open Classical in
noncomputable def doS (x : SsT) (k t : Int) (u d i : ByteArray) : SsT × SessReplyT :=
  if fitE k t u d i = false then (x, errR 1) else if t < x.now then (x, errR 2) else
  if k = 1 then ({ x with now := t, given := x.given + 1, list := x.list ++ [⟨[idOf x.key (x.given + 1)], u, d, 1, t, t, false⟩] }, ⟨0, idOf x.key (x.given + 1), u, 1⟩) else
  if k = 5 then ({ x with now := t, list := killAll u x.list }, ⟨0, ⟨#[]⟩, u, 0⟩) else
  match findI (idsL x.list) i with
  | none => ({ x with now := t }, errR 3)
  | some j => match x.list[j]? with
    | none => (x, errR 0)
    | some s =>
      if ¬ (lastI s.ids = i ∧ s.device = d) then ({ x with now := t, list := x.list.set j { s with dead := true } }, errR 4) else
      if s.dead = true then ({ x with now := t }, errR 5) else if overS x s t = true then ({ x with now := t }, errR 6) else
      if k = 4 then ({ x with now := t, list := x.list.set j { s with last := t, dead := true } }, toldR s) else
      if k = 3 then ({ x with now := t, given := x.given + 1, list := x.list.set j { s with last := t, level := min (s.level + 1) 9, ids := s.ids ++ [idOf x.key (x.given + 1)] } }, ⟨0, idOf x.key (x.given + 1), s.user, min (s.level + 1) 9⟩) else
      ({ x with now := t, list := x.list.set j { s with last := t } }, toldR s)
theorem ff {b : Bool} (h : b = true) : ¬ b = false := by rw [h]; simp
theorem ff' {b : Bool} (h : b = false) : ¬ b = true := by rw [h]; simp
theorem StepS.is {x x' : SsT} {k t : Int} {u d i : ByteArray} {r : SessReplyT} (h : StepS x k t u d i x' r) : doS x k t u d i = (x', r) := by
  unfold doS
  cases h with
  | unfit hf => rw [if_pos hf]
  | past hf hn => rw [if_neg (ff hf), if_pos hn]
  | login hf hn hk => rw [if_neg (ff hf), if_neg (by omega), if_pos hk]
  | all hf hn hk => rw [if_neg (ff hf), if_neg (by omega), if_neg (by omega), if_pos hk]
  | unknown hf hn h1 h5 hF => rw [if_neg (ff hf), if_neg (by omega), if_neg h1, if_neg h5, hF]
  | stolen j hj hf hn h1 h5 hF hd =>
    rw [if_neg (ff hf), if_neg (by omega), if_neg h1, if_neg h5, hF]
    dsimp only
    rw [List.getElem?_eq_getElem hj]
    dsimp only
    rw [if_pos hd]
  | dead j hj hf hn h1 h5 hF hl hd =>
    rw [if_neg (ff hf), if_neg (by omega), if_neg h1, if_neg h5, hF]
    dsimp only
    rw [List.getElem?_eq_getElem hj]
    dsimp only
    rw [if_neg (fun q => q hl), if_pos hd]
  | over j hj hf hn h1 h5 hF hl hd ho =>
    rw [if_neg (ff hf), if_neg (by omega), if_neg h1, if_neg h5, hF]
    dsimp only
    rw [List.getElem?_eq_getElem hj]
    dsimp only
    rw [if_neg (fun q => q hl), if_neg (ff' hd), if_pos ho]
  | use j hj hf hn h1 h5 hF hl hd ho h3 h4 =>
    rw [if_neg (ff hf), if_neg (by omega), if_neg h1, if_neg h5, hF]
    dsimp only
    rw [List.getElem?_eq_getElem hj]
    dsimp only
    rw [if_neg (fun q => q hl), if_neg (ff' hd), if_neg (ff' ho), if_neg h4, if_neg h3]
  | out j hj hf hn h4 hF hl hd ho =>
    rw [if_neg (ff hf), if_neg (by omega), if_neg (by omega), if_neg (by omega), hF]
    dsimp only
    rw [List.getElem?_eq_getElem hj]
    dsimp only
    rw [if_neg (fun q => q hl), if_neg (ff' hd), if_neg (ff' ho), if_pos h4]
  | raise j hj hf hn h3 hF hl hd ho =>
    rw [if_neg (ff hf), if_neg (by omega), if_neg (by omega), if_neg (by omega), hF]
    dsimp only
    rw [List.getElem?_eq_getElem hj]
    dsimp only
    rw [if_neg (fun q => q hl), if_neg (ff' hd), if_neg (ff' ho), if_neg (by omega), if_pos h3]
theorem RunS.uniq {x x1 : SsT} {l : List SessEventT} {rs : List SessReplyT} (h : RunS x l x1 rs) : ∀ {x2 : SsT} {rs2 : List SessReplyT}, RunS x l x2 rs2 → x1 = x2 ∧ rs = rs2 := by
  induction h with
  | nil =>
    intro x2 rs2 h2
    generalize hl : ([] : List SessEventT) = l at h2
    cases h2 with
    | nil => exact ⟨rfl, rfl⟩
    | snoc _ _ => simp at hl
  | snoc h1 hs ih =>
    rename_i y1 y2 l e rs r
    intro x2 rs2 h2
    generalize hl : l ++ [e] = l2 at h2
    cases h2 with
    | nil => simp at hl
    | snoc h3 hs3 =>
      obtain ⟨a1, a2⟩ := List.append_inj' hl rfl
      cases a1
      cases a2
      obtain ⟨b1, b2⟩ := ih h3
      subst b1
      subst b2
      have q1 := hs.is
      rw [hs3.is] at q1
      cases q1
      exact ⟨rfl, rfl⟩
def GC (kl : Nat) (idle most : Int) : Prop := kl ≤ 64 ∧ (1 ≤ idle ∧ idle ≤ 1000000) ∧ (1 ≤ most ∧ most ≤ 1000000)
instance (kl : Nat) (idle most : Int) : Decidable (GC kl idle most) := by unfold GC; infer_instance
structure RunIs (key : List UInt8) (kl : Nat) (idle most : Int) (l : List SessEventT) (r : List SessReplyT) : Prop where
  yes : GC kl idle most → l.length ≤ 200 → ∃ x', RunS (xS0 key idle most) l x' r
  no : ¬ (GC kl idle most ∧ l.length ≤ 200) → r = []
theorem RunIs.uniq {key : List UInt8} {kl : Nat} {idle most : Int} {l : List SessEventT} {r r' : List SessReplyT} (h : RunIs key kl idle most l r) (h' : RunIs key kl idle most l r') : r = r' := by
  by_cases g : GC kl idle most ∧ l.length ≤ 200
  · obtain ⟨_, h1⟩ := h.yes g.1 g.2
    obtain ⟨_, h2⟩ := h'.yes g.1 g.2
    exact (h1.uniq h2).2
  · rw [h.no g, h'.no g]
theorem RunIs.len {key : List UInt8} {kl : Nat} {idle most : Int} {l : List SessEventT} {r : List SessReplyT} (h : RunIs key kl idle most l r) : r.length ≤ 1000 := by
  by_cases g : GC kl idle most ∧ l.length ≤ 200
  · obtain ⟨_, h1⟩ := h.yes g.1 g.2
    rw [h1.len]; omega
  · rw [h.no g]; simp
set_option maxHeartbeats 2000000 in
theorem sGoodC_any (ka : Option Addr) (kl kc : Nat) (idle most : Int) (w : World) : Calls Tryd.prog 19 #[.agg #[.slice ka kl kc, .int .i64 idle, .int .i64 most]] w fun e w' => Said e (decide (GC kl idle most)) w w' := by
  go_enter Tryd.func19, Tryd.ntmps19
  go_wp2_with fail
  all_goals go_ret
  all_goals
    refine ⟨congrArg (fun b => Ending.returned (.bool b)) ?_, bAl (Below.refl _ _) _⟩
    rw [Bool.eq_iff_iff]
    simp only [decide_eq_true_eq, Bool.false_eq_true, false_iff, true_iff]
    unfold GC
    omega
set_option maxHeartbeats 4000000 in
theorem sRunSessions_v (ka : Option Addr) (kl kc : Nat) (key : List UInt8) (idle most : Int) (a : Option Addr) (len cap : Nat) (l : List SessEventT) (w : World) (hk : D.SlB w w.heap.size ka kl key) (hl : len ≤ maxLen) (hs : SlSessEvent w a len l) (hok : ∀ q ∈ l, SessEventT.Ok q) :
    Calls Tryd.prog 6 #[.agg #[.slice ka kl kc, .int .i64 idle, .int .i64 most], .slice a len cap] w fun e w' => (∃ v r, e = .returned v ∧ RunIs key kl idle most l r ∧ w'.ownsRow w.heap.size 57 4 v r.length (SessReplysV r)) ∧ Below w.heap.size w w' := by
  unfold maxLen at hl
  have LL := hide hs.1
  obtain ⟨W1, hW1⟩ : ∃ W, W = w.alloc (.cells #[.slice ka kl kc, .int .i64 idle, .int .i64 most] 30) := ⟨_, rfl⟩
  have b1 : Below w.heap.size w W1 := by rw [hW1]; exact bAl (Below.refl _ _) _
  have R1 := hide (show RowIs W1 w.heap.size #[.slice ka kl kc, .int .i64 idle, .int .i64 most] 30 by rw [hW1]; exact RowIs.new _ _ _)
  have HW := hide hW1.symm
  have B1 := hide b1
  have HS := hide (hs.keep b1)
  have HO := hide hok
  have HK := hide ((hk.keep b1).mono b1.size)
  clear hW1 b1 hs hok hk
  have x0 := (unhide R1).at (o := 0) (v := .slice ka kl kc) rfl
  have x1 := (unhide R1).at (o := 1) (v := .int .i64 idle) rfl
  have x2 := (unhide R1).at (o := 2) (v := .int .i64 most) rfl
  have xz := (unhide R1).lt
  have N := hide (fun (h : ¬ (GC kl idle most ∧ l.length ≤ 200)) => show RunIs key kl idle most l [] from ⟨fun y1 y2 => absurd ⟨y1, y2⟩ h, fun _ => rfl⟩)
  go_enter Tryd.func6, Tryd.ntmps6
  go_upto_region 1 with fail
  refine wp_world (unhide HW) ?_
  clear HW
  go_wp2_with fail
  refine (sGoodC_any ka kl kc idle most _).mono ?_
  rintro e w2 ⟨rfl, hb2⟩
  by_cases g : GC kl idle most
  rotate_left
  · have g2 : decide (GC kl idle most) = false := decide_eq_false g
    rw [g2]
    have B2 := hide (bTr (unhide B1) hb2)
    have NN := hide (unhide N (fun q => g q.1))
    clear hb2 g g2 x0 x1 x2 xz
    go_wp2_with fail
    go_ret
    exact ⟨⟨_, [], rfl, unhide NN, World.ownsRow_nil _ _ _ _⟩, unhide B2⟩
  rw [decide_eq_true g]
  have B2 := hide (bTr (unhide B1) hb2)
  have R2 := hide ((unhide R1).keep hb2)
  have S2 := hide ((unhide HS).keep hb2)
  have K2 := hide (((unhide HK).keep hb2).mono hb2.size)
  clear hb2 R1 HS HK x0 x1 x2 xz B1
  have G := hide g
  clear g
  by_cases h200 : 200 < len
  · have NN := hide (unhide N (fun q => by have := q.2; have := unhide LL; omega))
    go_wp2_with fail
    go_ret
    exact ⟨⟨_, [], rfl, unhide NN, World.ownsRow_nil _ _ _ _⟩, unhide B2⟩
  have l200 : len ≤ 200 := by omega
  have k64 := (unhide G).1
  have qr := hide (sRun_any ka kl kc key idle most a len cap l w2 (unhide K2) (by omega) (unhide G).2.1 (unhide G).2.2 l200 (unhide S2) (unhide HO))
  have x0 := (unhide R2).at (o := 0) (v := .slice ka kl kc) rfl
  have x1 := (unhide R2).at (o := 1) (v := .int .i64 idle) rfl
  have x2 := (unhide R2).at (o := 2) (v := .int .i64 most) rfl
  have xz := (unhide R2).lt
  go_wp2_with fail
  refine (unhide qr).mono ?_
  rintro e w3 ⟨x', rs, v, vs, P, rfl, hT⟩
  clear qr x0 x1 x2 xz
  go_wp2_with fail
  go_ret
  have T := unhide hT
  refine ⟨⟨v, rs, rfl, ⟨fun _ _ => ⟨x', by have q := T.run; rw [unhide LL, List.take_length] at q; exact q⟩, fun n => absurd ⟨unhide G, by rw [← unhide LL]; exact l200⟩ n⟩, ?_⟩, ?_⟩
  · rw [T.len]
    exact own_lo T.own (by have := (unhide B2).size; omega)
  · exact bTr (unhide B2) T.sp.bel
end Go.Proofs.YtlbbjkpdionieaaDoor
/- (*impl.session).isDead: a select of two channels with a default, in one goroutine. -/
namespace Go.Proofs.YtlbbjkpdionieaaDoor
open Go.Conc Go.RowKit

section
variable {P : Program} {fr : Frame} {cs : List Frame} {w w₁ : World} {es : Array Event} {c1 c2 cap1 s1 r1 cap2 s2 r2 : Nat} {t1 t2 : Bool} {z1 z2 : Value}
theorem two_shut (h : stepG P true (G fr cs) w = .comm (G fr cs) #[rcase c1 z1, rcase c2 z2] false .select w₁ es) (h1 : w₁.heap[c1]? = some (.chan cap1 #[] true s1 r1 t1)) (h2 : w₁.heap[c2]? = some (.chan cap2 #[] true s2 r2 t2)) :
    (step P (solo (G fr cs) w) = .next (solo (G (fr.finish (commResult #[rcase c1 z1, rcase c2 z2] .select 0 z1 false)) cs) w₁.drew)) ∨
    (step P (solo (G fr cs) w) = .next (solo (G (fr.finish (commResult #[rcase c1 z1, rcase c2 z2] .select 1 z2 false)) cs) w₁.drew)) := by
  have e1 : ways w₁ #[ph] (rcase c1 z1) = [.closed] := by simp [ways, rcase, h1, partners_lone]
  have e2 : ways w₁ #[ph] (rcase c2 z2) = [.closed] := by simp [ways, rcase, h2, partners_lone]
  have ill : (#[rcase c1 z1, rcase c2 z2] : Array CommCase).any (illMade w₁) = false := any_ill (by
    intro cc hc
    simp at hc
    rcases hc with rfl | rfl
    · exact made_recv z1 h1
    · exact made_recv z2 h2)
  have key := runT_crowd_comm (P := P) (gs := #[G fr cs]) (sl := none) (i := 0) (g := G fr cs) rfl h
  rw [step, stepT_solo rfl, solo_eq_crowd, key]
  have hr : ((#[rcase c1 z1, rcase c2 z2] : Array CommCase).zipIdx.toList.map fun (c, k) => (k, c, ways w₁ (#[G fr cs].setIfInBounds 0 ph) c)).filter (fun (_, _, ws) => !ws.isEmpty) = [(0, rcase c1 z1, [.closed]), (1, rcase c2 z2, [.closed])] := by
    simp [e1, e2]
  unfold communicate
  simp only [hr]
  rw [if_neg (by rw [Bool.not_eq_true]; exact ill)]
  rcases Nat.mod_two_eq_zero_or_one (w₁.tape w₁.drawn (.select 2)) with e | e
  · left
    simp [choose, Sem.run, Question.forced, Question.cut, bind, Sem.bind, pure, rcase, crowd, e, solo]
    rfl
  · right
    simp [choose, Sem.run, Question.forced, Question.cut, bind, Sem.bind, pure, rcase, crowd, e, solo]
    rfl
theorem LoneTo.two {Q : Goroutine → World → Prop} (h : stepG P true (G fr cs) w = .comm (G fr cs) #[rcase c1 z1, rcase c2 z2] false .select w₁ es) (h1 : w₁.heap[c1]? = some (.chan cap1 #[] true s1 r1 t1)) (h2 : w₁.heap[c2]? = some (.chan cap2 #[] true s2 r2 t2))
    (k0 : LoneTo P Q (G (fr.finish (commResult #[rcase c1 z1, rcase c2 z2] .select 0 z1 false)) cs) w₁.drew) (k1 : LoneTo P Q (G (fr.finish (commResult #[rcase c1 z1, rcase c2 z2] .select 1 z2 false)) cs) w₁.drew) : LoneTo P Q (G fr cs) w := by
  rcases two_shut h h1 h2 with hst | hst
  · exact LoneTo.step hst k0
  · exact LoneTo.step hst k1
end

theorem no_two {w : World} {a b : CommCase} (h1 : NoWay w a) (h2 : NoWay w b) : ∀ cc ∈ (#[a, b] : Array CommCase), NoWay w cc := by
  intro cc hc
  simp at hc
  rcases hc with rfl | rfl
  · exact h1
  · exact h2
theorem no_but0 {w : World} {a b : CommCase} (h2 : NoWay w b) : ∀ (m : Nat) (c' : CommCase), m ≠ 0 → (#[a, b] : Array CommCase)[m]? = some c' → NoWay w c'
  | 0, _, hm, _ => absurd rfl hm
  | 1, c', _, hc => by
    simp at hc
    subst hc
    exact h2
  | m + 2, c', _, hc => by simp at hc
theorem no_but1 {w : World} {a b : CommCase} (h1 : NoWay w a) : ∀ (m : Nat) (c' : CommCase), m ≠ 1 → (#[a, b] : Array CommCase)[m]? = some c' → NoWay w c'
  | 0, c', _, hc => by
    simp at hc
    subst hc
    exact h1
  | 1, _, hm, _ => absurd rfl hm
  | m + 2, c', _, hc => by simp at hc

/-- The channel at block k is shut, or isn't. -/
def ChanAt (w : World) (k : Nat) (c : Bool) : Prop := ∃ s r : Nat, w.heap[k]? = some (.chan 0 #[] c s r false)

def IsDeadQ (f : FuncId) (cs : List Frame) (P : Program) (w : World) (D : Bool) (g' : Goroutine) (w' : World) : Prop := ∃ e fr, g' = G fr cs ∧ (e = .returned (.bool D) ∧ Below w.heap.size w w') ∧ fr.fn = f ∧ fr.leaving P w' e
set_option maxRecDepth 100000 in
set_option maxHeartbeats 2000000 in
theorem isDead_any (b en ev : Nat) (ce cd : Bool) (w : World) (c6 : w.cell? ⟨b, 6, none⟩ = some (.chan (some en))) (c7 : w.cell? ⟨b, 7, none⟩ = some (.chan (some ev))) (he : ChanAt w en ce) (hv : ChanAt w ev cd) :
    Calls Tryd.prog 54 #[.pointer (some ⟨b, 0, none⟩)] w fun e w' => e = .returned (.bool (ce || cd)) ∧ Below w.heap.size w w' := by
  obtain ⟨s1, r1, he⟩ := he
  obtain ⟨s2, r2, hv⟩ := hv
  refine calls_of_loneTo fun cs => ?_
  have e : Frame.enter Tryd.prog 54 #[.pointer (some ⟨b, 0, none⟩)] .normal = (base 54).at ⟨#[.pointer (some ⟨b, 0, none⟩), undef, undef, undef, undef, undef, undef, undef, undef, undef, undef, undef, undef, undef, undef], []⟩ [.code (Tryd.f54.body.getD .skip)] := by
    simp [Frame.enter, Frame.at, Tryd.func54, base, Tryd.f54]
    try rfl
  rw [e]
  refine LoneTo.goes (n := 40) ?_
  simp only [Tryd.f54, Option.getD_some]
  s_c stepG_seq
  s_reg
  s_op
  s_c stepG_region_end
  s_c stepG_seq
  s_c stepG_seq
  s_c stepG_seq
  s_reg
  s_op
  s_op
  s_op
  s_op
  s_c stepG_region_end
  s_reg
  s_op
  s_op
  s_op
  s_op
  s_c stepG_region_end
  s_c stepG_seq
  s_reg
  s_stop
  have hcr0 : commResult #[rcase en (.agg #[]), rcase ev (.agg #[])] .select 0 (.agg #[]) false = .tuple #[.int .i64 0, .bool false, .agg #[], .agg #[]] := by simp [commResult, rcase, goInt]
  have hcr1 : commResult #[rcase en (.agg #[]), rcase ev (.agg #[])] .select 1 (.agg #[]) false = .tuple #[.int .i64 1, .bool false, .agg #[], .agg #[]] := by simp [commResult, rcase, goInt]
  have hcrm : commResult #[rcase en (.agg #[]), rcase ev (.agg #[])] .select (-1) undef false = .tuple #[.int .i64 (-1), .bool false, .agg #[], .agg #[]] := by simp [commResult, rcase, goInt]
  have hcomm := fun (fr : Frame) (h : stepG Tryd.prog true (G fr cs) w = .comm (G fr cs) #[rcase en (.agg #[]), rcase ev (.agg #[])] false .select w #[]) => h
  clear hcomm e
  have hcs0 : commResult #[rcase en (.agg #[]), rcase ev (.agg #[])] .select ((0 : Nat) : Int) (.agg #[]) false = .tuple #[.int .i64 0, .bool false, .agg #[], .agg #[]] := hcr0
  have hcs1 : commResult #[rcase en (.agg #[]), rcase ev (.agg #[])] .select ((1 : Nat) : Int) (.agg #[]) false = .tuple #[.int .i64 1, .bool false, .agg #[], .agg #[]] := hcr1
  cases ce <;> cases cd
  · refine LoneTo.step (step_lone_sel_default (stepG_comm (cases := #[rcase en (.agg #[]), rcase ev (.agg #[])]) (blocking := false) (shape := .select) (w' := w) rfl rfl (by decide) (by simp [go_sem, execOp, rcase, Act.eval])) (no_two (noWay_recv he) (noWay_recv hv))) ?_
    rw [hcrm]
    rw [Frame.finish_at]
    walk_nrm
    refine LoneTo.goes (n := 30) ?_
    s_op
    s_op
    s_op
    s_c stepG_region_end
    s_c stepG_block
    s_cond false
    s_cond false
    s_c stepG_seq
    s_reg
    s_op
    s_c stepG_region_end
    s_c stepG_ret'
    s_stop
    refine LoneTo.done ⟨.returned (.bool false), _, rfl, ⟨rfl, Below.refl _ _⟩, rfl, rfl, rfl, rfl, _, Tryd.func54, by simp [results, Tryd.f54, Frame.at]⟩
  · refine LoneTo.step (step_lone_sel_recv_shut (k := 1) (z := .agg #[]) (stepG_comm (cases := #[rcase en (.agg #[]), rcase ev (.agg #[])]) (blocking := false) (shape := .select) (w' := w) rfl rfl (by decide) (by simp [go_sem, execOp, rcase, Act.eval])) rfl (no_but1 (noWay_recv he)) hv) ?_
    rw [hcs1]
    rw [Frame.finish_at]
    walk_nrm
    refine LoneTo.goes (n := 30) ?_
    s_op
    s_op
    s_op
    s_c stepG_region_end
    s_c stepG_block
    s_cond false
    s_cond true
    s_c stepG_skip
    s_c stepG_inBlock
    s_c stepG_seq
    s_reg
    s_op
    s_c stepG_region_end
    s_c stepG_ret'
    s_stop
    refine LoneTo.done ⟨.returned (.bool true), _, rfl, ⟨rfl, Below.refl _ _⟩, rfl, rfl, rfl, rfl, _, Tryd.func54, by simp [results, Tryd.f54, Frame.at]⟩
  · refine LoneTo.step (step_lone_sel_recv_shut (k := 0) (z := .agg #[]) (stepG_comm (cases := #[rcase en (.agg #[]), rcase ev (.agg #[])]) (blocking := false) (shape := .select) (w' := w) rfl rfl (by decide) (by simp [go_sem, execOp, rcase, Act.eval])) rfl (no_but0 (noWay_recv hv)) he) ?_
    rw [hcs0]
    rw [Frame.finish_at]
    walk_nrm
    refine LoneTo.goes (n := 30) ?_
    s_op
    s_op
    s_op
    s_c stepG_region_end
    s_c stepG_block
    s_cond true
    s_c stepG_skip
    s_c stepG_inBlock
    s_c stepG_seq
    s_reg
    s_op
    s_c stepG_region_end
    s_c stepG_ret'
    s_stop
    refine LoneTo.done ⟨.returned (.bool true), _, rfl, ⟨rfl, Below.refl _ _⟩, rfl, rfl, rfl, rfl, _, Tryd.func54, by simp [results, Tryd.f54, Frame.at]⟩
  · refine LoneTo.two (stepG_comm (cases := #[rcase en (.agg #[]), rcase ev (.agg #[])]) (blocking := false) (shape := .select) (w' := w) rfl rfl (by decide) (by simp [go_sem, execOp, rcase, Act.eval])) he hv ?_ ?_
    · rw [hcr0]
      rw [Frame.finish_at]
      walk_nrm
      refine LoneTo.goes (n := 30) ?_
      s_op
      s_op
      s_op
      s_c stepG_region_end
      s_c stepG_block
      s_cond true
      s_c stepG_skip
      s_c stepG_inBlock
      s_c stepG_seq
      s_reg
      s_op
      s_c stepG_region_end
      s_c stepG_ret'
      s_stop
      refine LoneTo.done ⟨.returned (.bool true), _, rfl, ⟨rfl, (Below.refl _ _).drew⟩, rfl, rfl, rfl, rfl, _, Tryd.func54, by simp [results, Tryd.f54, Frame.at]⟩
    · rw [hcr1]
      rw [Frame.finish_at]
      walk_nrm
      refine LoneTo.goes (n := 30) ?_
      s_op
      s_op
      s_op
      s_c stepG_region_end
      s_c stepG_block
      s_cond false
      s_cond true
      s_c stepG_skip
      s_c stepG_inBlock
      s_c stepG_seq
      s_reg
      s_op
      s_c stepG_region_end
      s_c stepG_ret'
      s_stop
      refine LoneTo.done ⟨.returned (.bool true), _, rfl, ⟨rfl, (Below.refl _ _).drew⟩, rfl, rfl, rfl, rfl, _, Tryd.func54, by simp [results, Tryd.f54, Frame.at]⟩
end Go.Proofs.YtlbbjkpdionieaaDoor
/- Sessions: the small functions of the program. -/
namespace Go.Proofs.YtlbbjkpdionieaaDoor
set_option linter.unusedSimpArgs false
set_option linter.unusedVariables false
set_option maxRecDepth 20000
open Go.RowKit Go.Maps


structure BlT where
  sb : Nat
  en : Nat
  ev : Nat
  ce : Bool
  cd : Bool
def sC (s : SxT) (q : BlT) : Array Value := #[.string (lastI s.ids), .string s.user, .string s.device, .int .i64 s.level, .int .i64 s.login, .int .i64 s.last, .chan (some q.en), .chan (some q.ev)]
def vC (ka : Option Addr) (kl kc : Nat) (x : SsT) (mo me : Nat) (ov : Value) : Array Value := #[.slice ka kl kc, .int .i64 x.idle, .int .i64 x.most, .int .i64 x.now, .int .i64 (x.given : Int), .map (some mo), .map (some me), ov]
theorem bet_any (a b c : Int) (w : World) : Calls Tryd.prog 40 #[.int .i64 a, .int .i64 b, .int .i64 c] w fun e w' => e = .returned (.bool (decide (a ≤ b ∧ b ≤ c))) ∧ w = w' := D.between_any a b c w
set_option maxHeartbeats 2000000 in
theorem iGoodC_any (ka : Option Addr) (kl kc : Nat) (idle most : Int) (w : World) : Calls Tryd.prog 30 #[.agg #[.slice ka kl kc, .int .i64 idle, .int .i64 most]] w fun e w' => Said e (decide (GC kl idle most)) w w' := by
  have q1 := hide (bet_any 1 idle 1000000)
  have q2 := hide (bet_any 1 most 1000000)
  cases d1 : decide (1 ≤ idle ∧ idle ≤ 1000000) <;> cases d2 : decide (1 ≤ most ∧ most ≤ 1000000)
  all_goals
    rw [d1] at q1
    rw [d2] at q2
    have D1 := hide d1
    have D2 := hide d2
    clear d1 d2
    go_enter Tryd.func30, Tryd.ntmps30
    go_wp2_with (go_at_call 40; (first | (with_reducible refine (unhide q1 _).mono ?_) | (with_reducible refine (unhide q2 _).mono ?_)); rintro e w1 ⟨rfl, rfl⟩)
  all_goals go_ret
  all_goals
    refine ⟨congrArg (fun b => Ending.returned (.bool b)) ?_, bAl (Below.refl _ _) _⟩
    have D1 := unhide D1
    have D2 := unhide D2
    simp only [decide_eq_true_eq, decide_eq_false_iff_not] at D1 D2
    rw [Bool.eq_iff_iff]
    simp only [decide_eq_true_eq, Bool.false_eq_true, false_iff, true_iff]
    unfold GC
    omega
set_option maxHeartbeats 4000000 in
theorem iTold_any (s : SxT) (q : BlT) (w : World) (hr : RowIs w q.sb (sC s q) 97) :
    Calls Tryd.prog 43 #[.pointer (some ⟨q.sb, 0, none⟩)] w fun e w' => e = .returned (.agg (encR (toldR s))) ∧ Below w.heap.size w w' := by
  have eT := hide (show encR (toldR s) = #[.int .i64 0, .string (lastI s.ids), .string s.user, .int .i64 s.level] from rfl)
  obtain ⟨W2, hW2⟩ : ∃ W, W = w.alloc (.cells #[.int .i64 0, .string ⟨#[]⟩, .string ⟨#[]⟩, .int .i64 0] 57) := ⟨_, rfl⟩
  have b2 : Below w.heap.size w W2 := by rw [hW2]; exact bAl (Below.refl _ _) _
  have R2 := show RowIs W2 w.heap.size #[.int .i64 0, .string ⟨#[]⟩, .string ⟨#[]⟩, .int .i64 0] 57 by rw [hW2]; exact RowIs.new _ _ _
  have R1 := hr.keep b2
  have q0 := R1.at (o := 0) (v := .string (lastI s.ids)) rfl
  have q1 := R1.at (o := 1) (v := .string s.user) rfl
  have q3 := R1.at (o := 3) (v := .int .i64 s.level) rfl
  have qz := R1.lt
  have HR := hide R2
  have r0 := R2.at (o := 0) (v := .int .i64 0) rfl
  have r1 := R2.at (o := 1) (v := .string ⟨#[]⟩) rfl
  have r2 := R2.at (o := 2) (v := .string ⟨#[]⟩) rfl
  have r3 := R2.at (o := 3) (v := .int .i64 0) rfl
  have f0 := R2.froz 0
  have f1 := R2.froz 1
  have f2 := R2.froz 2
  have f3 := R2.froz 3
  have R2z := R2.lt
  have HB := hide b2
  have HW := hide hW2.symm
  clear hW2 b2 R2 R1 hr
  generalize encR (toldR s) = T at *
  generalize lastI s.ids = L at *
  generalize s.user = U at *
  generalize s.level = V at *
  go_enter Tryd.func43, Tryd.ntmps43
  go_upto_region 1 with fail
  refine wp_world (unhide HW) ?_
  go_region
  all_goals
    go_wp2_with fail
    try simp only [Exit.inBlock, Exit.then]
    exact bodyPost_ret (ret_reply rfl _ _ (w.heap.size) #[.int .i64 0, .string L, .string U, .int .i64 V] rfl rfl (((((unhide HR).set 0 _).set 1 _).set 2 _).set 3 _)) rfl ⟨by rw [unhide eT], (((((unhide HB).setCell (Nat.le_refl _) _).setCell (Nat.le_refl _) _).setCell (Nat.le_refl _) _).setCell (Nat.le_refl _) _).drew⟩
set_option maxHeartbeats 4000000 in
theorem iOver_any (b mo me : Nat) (ka : Option Addr) (kl kc : Nat) (x : SsT) (s : SxT) (q : BlT) (ov : Value) (t : Int) (w : World) (hv : RowIs w b (vC ka kl kc x mo me ov) 82) (hr : RowIs w q.sb (sC s q) 97) (h1 : 0 ≤ s.login ∧ s.login ≤ 100000000000) (h2 : 0 ≤ s.last ∧ s.last ≤ 100000000000) (h3 : 0 ≤ x.idle ∧ x.idle ≤ 1000000) (h4 : 0 ≤ x.most ∧ x.most ≤ 1000000) :
    Calls Tryd.prog 55 #[.pointer (some ⟨b, 0, none⟩), .pointer (some ⟨q.sb, 0, none⟩), .int .i64 t] w fun e w' => Said e (overS x s t) w w' := by
  have ne : Nonempty (Kept w) := ⟨⟨w, Below.refl _ _⟩⟩
  have g4 := kept_cell hr.lt (hr.at (o := 4) (v := .int .i64 s.login) rfl)
  have g5 := kept_cell hr.lt (hr.at (o := 5) (v := .int .i64 s.last) rfl)
  have c1 := kept_cell hv.lt (hv.at (o := 1) (v := .int .i64 x.idle) rfl)
  have c2 := kept_cell hv.lt (hv.at (o := 2) (v := .int .i64 x.most) rfl)
  have w1 : IntKind.i64.wrap (s.last + x.idle) = s.last + x.idle := by rw [IntKind.wrap_i64]; omega
  have w2 : IntKind.i64.wrap (s.login + x.most) = s.login + x.most := by rw [IntKind.wrap_i64]; omega
  have eO := hide (show overS x s t = (decide (s.last + x.idle < t) || decide (s.login + x.most < t)) from rfl)
  clear hr hv
  generalize overS x s t = O at *
  generalize s.login = LG at *
  generalize s.last = LA at *
  generalize x.idle = ID at *
  generalize x.most = MO at *
  by_cases p1 : LA + ID < t
  all_goals
    by_cases p2 : LG + MO < t
    all_goals
      go_enter Tryd.func55, Tryd.ntmps55
      go_upto_region 1 with fail
      refine wp_region_kept (by kernel_rfl) (by kernel_rfl) ?_
      repeat (first
        | go_big_quiet_step ((fail))
        | quiet_step ((fail)))
      refine wpQuiet_nil ?_
      rintro _ ⟨q, rfl⟩
      go_wp2_with fail
      go_ret
      exact ⟨by rw [unhide eO]; simp [p1, p2], q.h⟩
end Go.Proofs.YtlbbjkpdionieaaDoor
