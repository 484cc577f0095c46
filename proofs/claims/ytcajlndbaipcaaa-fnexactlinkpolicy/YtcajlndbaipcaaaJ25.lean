/- YLd, YLi, one behind the other. -/
import Derived.Test.YtcajlndbaipcaaaJ23
import Derived.Deep.MidRow
import Derived.Deep.RegionHeld3
import Derived.Test.YtcajlndbaipcaaaJ24
import Derived.Deep.CutBlock
import Derived.Deep.DeepCutAuto
/- A block of many cells that is loaded in a region that draws. -/
namespace Go.Proofs.Ytcajlndbaipcaaa.V
open Go.RowKit

theorem yields_row {P : Program} {ops : Array Oper} {S : World → Prop} {op : Oper} {a : Act} (hw : Region.wanted op (yielded ops a.tmps) = true) (ty : TypeId) (x : Operand) (ho : op.op = .load ty x)
    (g : Nat) (hx : a.eval x = .pointer (some ⟨g, 0, none⟩)) (t : TypeId) (cs : Array Value) (d : TypeDesc) (hS : ∀ w, S w → RowIs w g cs t)
    (hu : P.underlying ty = some d) (hd : (match d with | .struct _ | .array _ _ => true | _ => false) = true) (hi : (P.info? ty).map (·.size) = some cs.size) : YieldsIf P ops S op (.agg cs) a :=
  .inl ⟨hw, fun w hw' => by
    unfold execOp
    simp only [ho, hx, Instr.loadAt, Instr.sureAddr, Sem.run_bind, Sem.run_pure, Result.andThen_ok, run_loadVar_row w g t ty cs (0, 0) d (hS w hw') hu hd hi]⟩
def EntY (N : FuncId) : Prop := ∀ (args : Array Value) (w : World), (callFunc N args).run Try.prog w = .ok (.enter N args) w
theorem entY_of {N : FuncId} {fn : Func} (hf : Try.prog.funcs[N]? = some fn) (hname : (fn.name == "runtime.NumGoroutine") = false) (hb : fn.body.isNone = false) : EntY N := by
  intro args w
  have h1 : fn.name ≠ "runtime.NumGoroutine" := by simpa using hname
  have h2 : fn.body ≠ none := fun e => by rw [e] at hb; cases hb
  simp [callFunc, hf, h1, h2]
theorem ent_toPolicy : EntY 7 := entY_of Try.func7 (by kernel_rfl) (by kernel_rfl)
theorem ent_eqPolicy : EntY 10 := entY_of Try.func10 (by kernel_rfl) (by kernel_rfl)
theorem step_call1 (w : World) {ops : Array Oper} {o : Oper} {a : Act} {K : Act → World → Prop} {Q : Exit → Act → World → Prop} {E : Prop} (hgd : o.guard = none) (f : FuncId) (x0 : Operand) (ts : Array TypeId)
    (ho : o.op = .call { callee := .value (.func f), args := #[x0], argTypes := ts }) (v0 : Value) (h0 : a.eval x0 = v0) (hen : EntY f) {R : Ending → World → Prop} (hc : Calls Try.prog f #[v0] w R)
    (h : ∀ e w', R e w' → ∃ v, e = .returned v ∧ K (a.put o.dst v) w') :
    if Region.wanted o (yielded ops a.tmps) = true then Oper.wp Try.prog o a w K Q else E := by
  have hw : Region.wanted o (yielded ops a.tmps) = true := by simp [Region.wanted, hgd]
  rw [if_pos hw]
  have hr : (execOp a.eval o).run Try.prog w = .ok (.enter f #[v0]) w := by
    have he := hen #[v0] w
    have hf : a.eval (.func f) = .func (.func f) #[] #[] := rfl
    unfold execOp
    simp only [ho, resolve, invoke, Deferred.ofValue, Sem.run_bind, Sem.run_pure, Result.andThen_ok, List.map_toArray, List.map_cons, List.map_nil, h0, hf]
    have e2 : (#[v0] ++ #[] : Array Value) = #[v0] := by simp
    first | exact he | (rw [e2]; exact he) | (simp; exact he)
  unfold Oper.wp
  rw [hr, Oper.upon_enter]
  refine hc.mono ?_
  intro e w' hR
  obtain ⟨v, rfl, hK⟩ := h e w' hR
  exact hK
theorem step_call2 (w : World) {ops : Array Oper} {o : Oper} {a : Act} {K : Act → World → Prop} {Q : Exit → Act → World → Prop} {E : Prop} (hgd : o.guard = none) (f : FuncId) (x0 x1 : Operand) (ts : Array TypeId)
    (ho : o.op = .call { callee := .value (.func f), args := #[x0, x1], argTypes := ts }) (v0 v1 : Value) (h0 : a.eval x0 = v0) (h1 : a.eval x1 = v1) (hen : EntY f) {R : Ending → World → Prop} (hc : Calls Try.prog f #[v0, v1] w R)
    (h : ∀ e w', R e w' → ∃ v, e = .returned v ∧ K (a.put o.dst v) w') :
    if Region.wanted o (yielded ops a.tmps) = true then Oper.wp Try.prog o a w K Q else E := by
  have hw : Region.wanted o (yielded ops a.tmps) = true := by simp [Region.wanted, hgd]
  rw [if_pos hw]
  have hr : (execOp a.eval o).run Try.prog w = .ok (.enter f #[v0, v1]) w := by
    have he := hen #[v0, v1] w
    have hf : a.eval (.func f) = .func (.func f) #[] #[] := rfl
    unfold execOp
    simp only [ho, resolve, invoke, Deferred.ofValue, Sem.run_bind, Sem.run_pure, Result.andThen_ok, List.map_toArray, List.map_cons, List.map_nil, h0, h1, hf]
    have e2 : (#[v0, v1] ++ #[] : Array Value) = #[v0, v1] := by simp
    first | exact he | (rw [e2]; exact he) | (simp; exact he)
  unfold Oper.wp
  rw [hr, Oper.upon_enter]
  refine hc.mono ?_
  intro e w' hR
  obtain ⟨v, rfl, hK⟩ := h e w' hR
  exact hK
end Go.Proofs.Ytcajlndbaipcaaa.V
/- impl.LinkPolicy. -/
namespace Go.Proofs.Ytcajlndbaipcaaa.V
open Go.RowKit Go.Maps
set_option linter.unusedSimpArgs false

theorem range_row {w : World} {g : Nat} {C : Array Value} {T : TypeId} (h : RowIs w g C T) {o : Nat} {cs : List Value} (hc : (C.toList.drop o).take cs.length = cs) : w.rangeAt g o cs := fun j u hj => by
  refine h.at ?_
  rw [← hc, List.getElem?_take] at hj
  split at hj
  · rw [List.getElem?_drop] at hj
    rw [← Array.getElem?_toList]
    exact hj
  · cases hj
set_option maxRecDepth 40000 in
set_option maxHeartbeats 4000000 in
theorem iLinkPolicy_any (P : PolT) (ad : Addr) (len cap : Nat) (id : ByteArray) (pr re : AtomT) (w : World) (ho : P.Ok) (hid : id.size ≤ maxLen) (hpr : pr.Ok) (hre : re.Ok) (hl : len ≤ 1048576) (hc : len ≤ cap) (hs : SlExpr w (some ad) len P.wh) :
    Calls Try.prog 9 #[polAgg P (.slice (some ad) len cap), .string id, .agg #[.int .i64 pr.x, .int .i64 pr.n, .string pr.t, .string pr.y], .agg #[.int .i64 re.x, .int .i64 re.n, .string re.t, .string re.y]] w fun e w' => LinkEnd w' w.heap.size P len id pr re e ∧ Below w.heap.size w w' := by
  have HS := hide hs
  obtain ⟨W0, hW0⟩ : ∃ W, W = (((w.alloc (.cells (polRow P (.slice (some ad) len cap)) 36)).alloc (.cells #[.int .i64 pr.x, .int .i64 pr.n, .string pr.t, .string pr.y] 31)).alloc (.cells #[.int .i64 re.x, .int .i64 re.n, .string re.t, .string re.y] 31)).alloc (.cells #[.string ⟨#[]⟩, .bool false, .int .i64 0, .int .i64 0, .int .i64 0, .string ⟨#[]⟩, .string ⟨#[]⟩, .string ⟨#[]⟩, .int .i64 0, .int .i64 0, .int .i64 0, .string ⟨#[]⟩, .string ⟨#[]⟩, .string ⟨#[]⟩, .int .i64 0, .int .i64 0, .int .i64 0, .string ⟨#[]⟩, .string ⟨#[]⟩, .string ⟨#[]⟩, .slice none 0 0] 36) := ⟨_, rfl⟩
  have z0 : W0.heap.size = w.heap.size + 1 + 1 + 1 + 1 := by rw [hW0]; simp
  have b0 : Below w.heap.size w W0 := by rw [hW0]; exact bAl (bAl (bAl (bAl (Below.refl _ _) _) _) _) _
  have R4 : Hid (RowIs W0 (w.heap.size) (polRow P (.slice (some ad) len cap)) 36) := hide (by rw [hW0]; exact (((RowIs.new w _ _).keep (bAl (Below.refl _ _) _)).keep (bAl (Below.refl _ _) _)).keep (bAl (Below.refl _ _) _))
  have R6 : Hid (RowIs W0 (w.heap.size + 1) #[.int .i64 pr.x, .int .i64 pr.n, .string pr.t, .string pr.y] 31) := hide (by rw [hW0]; have h := ((RowIs.new (w.alloc (.cells (polRow P (.slice (some ad) len cap)) 36)) #[.int .i64 pr.x, .int .i64 pr.n, .string pr.t, .string pr.y] 31).keep (bAl (Below.refl _ _) (.cells #[.int .i64 re.x, .int .i64 re.n, .string re.t, .string re.y] 31))).keep (bAl (Below.refl _ _) (.cells #[.string ⟨#[]⟩, .bool false, .int .i64 0, .int .i64 0, .int .i64 0, .string ⟨#[]⟩, .string ⟨#[]⟩, .string ⟨#[]⟩, .int .i64 0, .int .i64 0, .int .i64 0, .string ⟨#[]⟩, .string ⟨#[]⟩, .string ⟨#[]⟩, .int .i64 0, .int .i64 0, .int .i64 0, .string ⟨#[]⟩, .string ⟨#[]⟩, .string ⟨#[]⟩, .slice none 0 0] 36)); rw [World.size_alloc] at h; exact h)
  have R7 : Hid (RowIs W0 (w.heap.size + 1 + 1) #[.int .i64 re.x, .int .i64 re.n, .string re.t, .string re.y] 31) := hide (by rw [hW0]; have h := (RowIs.new ((w.alloc (.cells (polRow P (.slice (some ad) len cap)) 36)).alloc (.cells #[.int .i64 pr.x, .int .i64 pr.n, .string pr.t, .string pr.y] 31)) #[.int .i64 re.x, .int .i64 re.n, .string re.t, .string re.y] 31).keep (bAl (Below.refl _ _) (.cells #[.string ⟨#[]⟩, .bool false, .int .i64 0, .int .i64 0, .int .i64 0, .string ⟨#[]⟩, .string ⟨#[]⟩, .string ⟨#[]⟩, .int .i64 0, .int .i64 0, .int .i64 0, .string ⟨#[]⟩, .string ⟨#[]⟩, .string ⟨#[]⟩, .int .i64 0, .int .i64 0, .int .i64 0, .string ⟨#[]⟩, .string ⟨#[]⟩, .string ⟨#[]⟩, .slice none 0 0] 36)); rw [World.size_alloc, World.size_alloc] at h; exact h)
  have R8 : Hid (RowIs W0 (w.heap.size + 1 + 1 + 1) #[.string ⟨#[]⟩, .bool false, .int .i64 0, .int .i64 0, .int .i64 0, .string ⟨#[]⟩, .string ⟨#[]⟩, .string ⟨#[]⟩, .int .i64 0, .int .i64 0, .int .i64 0, .string ⟨#[]⟩, .string ⟨#[]⟩, .string ⟨#[]⟩, .int .i64 0, .int .i64 0, .int .i64 0, .string ⟨#[]⟩, .string ⟨#[]⟩, .string ⟨#[]⟩, .slice none 0 0] 36) := hide (by rw [hW0]; have h := RowIs.new (((w.alloc (.cells (polRow P (.slice (some ad) len cap)) 36)).alloc (.cells #[.int .i64 pr.x, .int .i64 pr.n, .string pr.t, .string pr.y] 31)).alloc (.cells #[.int .i64 re.x, .int .i64 re.n, .string re.t, .string re.y] 31)) #[.string ⟨#[]⟩, .bool false, .int .i64 0, .int .i64 0, .int .i64 0, .string ⟨#[]⟩, .string ⟨#[]⟩, .string ⟨#[]⟩, .int .i64 0, .int .i64 0, .int .i64 0, .string ⟨#[]⟩, .string ⟨#[]⟩, .string ⟨#[]⟩, .int .i64 0, .int .i64 0, .int .i64 0, .string ⟨#[]⟩, .string ⟨#[]⟩, .string ⟨#[]⟩, .slice none 0 0] 36; rw [World.size_alloc, World.size_alloc, World.size_alloc] at h; exact h)
  have HW := hide hW0.symm
  have B := hide b0
  clear hs hW0 b0
  obtain ⟨T, hT⟩ := bool_of (¬ LinkC P id pr re)
  have HT := hide hT
  clear hT
  have q1 := hide (fun w hs => iGoodPolicy_any P (some ad) len cap w ho hl hc hs)
  have q2 := hide (isId_any id hid)
  have q3 := hide (fun w => isRef_any pr.x pr.n pr.t pr.y w hpr.n9 hpr.t9 hpr.y9)
  have q4 := hide (fun w => isRef_any re.x re.n re.t re.y w hre.n9 hre.t9 hre.y9)
  have q5 := hide (isSlot_any P.p)
  have q6 := hide (isSlot_any P.r)
  have q7 := hide (linkedHead_any P.p pr)
  have q8 := hide (linkedHead_any P.r re)
  have q9 := hide (fun w hs => copied_any (some ad) len cap P.wh w hl hs)
  obtain ⟨SL, hSL⟩ := bool_of ((P.p.k = 5 ∨ P.p.k = 6) ∨ (P.r.k = 5 ∨ P.r.k = 6))
  have HSL := hide hSL
  clear ho hc hid hpr hre hSL hl
  go_enter Try.func9, Try.ntmps9
  go_upto_region 1 with fail
  rw [unhide HW]
  clear HW
  generalize polAgg P (.slice (some ad) len cap) = V0
  generalize Value.agg #[.int .i64 pr.x, .int .i64 pr.n, .string pr.t, .string pr.y] = V2
  generalize Value.agg #[.int .i64 re.x, .int .i64 re.n, .string re.t, .string re.y] = V3
  go_cut [10] (fun c wx => c = .bool SL ∧ Hid (Below W0.heap.size W0 wx))
  case first =>
    have c2 := (unhide R4).at (o := 2) (v := .int .i64 P.p.k) rfl
    have c3 := (unhide R4).at (o := 3) (v := .int .i64 P.p.x) rfl
    have c4 := (unhide R4).at (o := 4) (v := .int .i64 P.p.n) rfl
    have c5 := (unhide R4).at (o := 5) (v := .string P.p.t) rfl
    have c6 := (unhide R4).at (o := 6) (v := .string P.p.y) rfl
    have c7 := (unhide R4).at (o := 7) (v := .string P.p.ty) rfl
    go_wp2_with fail
    refine (unhide q5 _).mono ?_
    rintro e w5 ⟨⟨b5, rfl, h5⟩, hb1⟩
    replace R4 := hide ((unhide R4).keep hb1)
    have BB := hide hb1
    have H5 := hide h5
    clear hb1 h5 c2 c3 c4 c5 c6 c7
    cases b5
    case true =>
      have et : SL = true := (unhide HSL).2 (.inl ((unhide H5).1 rfl))
      clear HSL HT
      go_wp2_with fail
      go_meet
      exact ⟨by rw [et], BB⟩
    have c14 := (unhide R4).at (o := 14) (v := .int .i64 P.r.k) rfl
    have c15 := (unhide R4).at (o := 15) (v := .int .i64 P.r.x) rfl
    have c16 := (unhide R4).at (o := 16) (v := .int .i64 P.r.n) rfl
    have c17 := (unhide R4).at (o := 17) (v := .string P.r.t) rfl
    have c18 := (unhide R4).at (o := 18) (v := .string P.r.y) rfl
    have c19 := (unhide R4).at (o := 19) (v := .string P.r.ty) rfl
    go_wp2_with fail
    refine (unhide q6 _).mono ?_
    rintro e w6 ⟨⟨b6, rfl, h6⟩, hb1⟩
    replace BB := hide (bTr (unhide BB) hb1)
    have et : SL = b6 := by
      rw [Bool.eq_iff_iff, unhide HSL, h6]
      exact ⟨fun h => h.resolve_left (fun g => by have := (unhide H5).2 g; cases this), .inr⟩
    clear hb1 h6 HSL HT c14 c15 c16 c17 c18 c19
    go_wp2_with fail
    go_meet
    exact ⟨by rw [et], BB⟩
  case rest =>
    obtain ⟨rfl, B1⟩ := hcut
    replace R4 := hide ((unhide R4).keep (unhide B1))
    replace R6 := hide ((unhide R6).keep (unhide B1))
    replace R7 := hide ((unhide R7).keep (unhide B1))
    replace R8 := hide ((unhide R8).keep (unhide B1))
    replace B := hide (bTr (unhide B) (unhide B1))
    clear B1 q5 q6
    go_upto_region 2 with fail
    obtain ⟨WA, hWA⟩ : ∃ W, W = wc := ⟨_, rfl⟩
    subst hWA
    go_cut [40] (fun c wx => c = .bool T ∧ Hid (Below WA.heap.size WA wx))
    case first =>
      have BB := hide (Below.refl WA.heap.size WA)
      go_step
      refine wpList_load_row rfl 36 _ rfl _ rfl 36 _ (0, 0) _ (unhide R4) Try.underlying36 rfl (by kernel_rfl) ?_
      go_wp2_with fail
      refine (unhide q1 _ ((unhide HS).keep (unhide B))).mono ?_
      rintro e w1 ⟨⟨b1, rfl, h1⟩, hb1⟩
      replace R6 := hide ((unhide R6).keep hb1)
      replace R7 := hide ((unhide R7).keep hb1)
      replace BB := hide (bTr (unhide BB) hb1)
      have H1 := hide h1
      clear hb1 h1
      cases b1
      case false =>
        have et : T = true := (unhide HT).2 (fun h => (by have := (unhide H1).2 h.1; cases this))
        clear HT
        go_wp2_with fail
        go_meet
        exact ⟨by rw [et], BB⟩
      have G1 := hide ((unhide H1).1 rfl)
      clear H1
      cases SL
      case false =>
        have et : T = true := (unhide HT).2 (fun h => (by have := (unhide HSL).2 h.2.2.2.2; cases this))
        clear HT
        go_wp2_with fail
        go_meet
        exact ⟨by rw [et], BB⟩
      have GS := hide ((unhide HSL).1 rfl)
      clear HSL
      go_wp2_with fail
      refine (unhide q2 _).mono ?_
      rintro e w2 ⟨rfl, hb1⟩
      replace R6 := hide ((unhide R6).keep hb1)
      replace R7 := hide ((unhide R7).keep hb1)
      replace BB := hide (bTr (unhide BB) hb1)
      clear hb1
      obtain ⟨I, eI⟩ : ∃ I, idB id = I := ⟨_, rfl⟩
      rw [eI]
      have EI := hide eI
      clear eI
      cases I
      case false =>
        have et : T = true := (unhide HT).2 (fun h => (by have := h.2.1; rw [unhide EI] at this; cases this))
        clear HT
        go_wp2_with fail
        go_meet
        exact ⟨by rw [et], BB⟩
      have d0 := (unhide R6).at (o := 0) (v := .int .i64 pr.x) rfl
      have d1 := (unhide R6).at (o := 1) (v := .int .i64 pr.n) rfl
      have d2 := (unhide R6).at (o := 2) (v := .string pr.t) rfl
      have d3 := (unhide R6).at (o := 3) (v := .string pr.y) rfl
      go_wp2_with fail
      refine (unhide q3 _).mono ?_
      rintro e w3 ⟨⟨b3, rfl, h3⟩, hb1⟩
      replace R7 := hide ((unhide R7).keep hb1)
      replace BB := hide (bTr (unhide BB) hb1)
      have H3 := hide h3
      clear hb1 h3 d0 d1 d2 d3
      cases b3
      case false =>
        have et : T = true := (unhide HT).2 (fun h => (by have := (unhide H3).2 h.2.2.1; cases this))
        clear HT
        go_wp2_with fail
        go_meet
        exact ⟨by rw [et], BB⟩
      have d0 := (unhide R7).at (o := 0) (v := .int .i64 re.x) rfl
      have d1 := (unhide R7).at (o := 1) (v := .int .i64 re.n) rfl
      have d2 := (unhide R7).at (o := 2) (v := .string re.t) rfl
      have d3 := (unhide R7).at (o := 3) (v := .string re.y) rfl
      go_wp2_with fail
      refine (unhide q4 _).mono ?_
      rintro e w4 ⟨⟨b4, rfl, h4⟩, hb1⟩
      replace BB := hide (bTr (unhide BB) hb1)
      have et : T = !b4 := by
        rw [Bool.eq_iff_iff, unhide HT]
        constructor
        · intro h; cases b4 with
          | false => rfl
          | true => exact absurd ⟨unhide G1, unhide EI, (unhide H3).1 (by first | rfl | trivial), h4.1 (by first | rfl | trivial), unhide GS⟩ h
        · intro h h'; rw [h4.2 h'.2.2.2.1] at h; cases h
      clear hb1 h4 HT d0 d1 d2 d3
      go_wp2_with fail
      go_meet
      exact ⟨by rw [et], BB⟩
    case rest =>
      obtain ⟨rfl, B2⟩ := hcut
      replace R4 := hide ((unhide R4).keep (unhide B2))
      replace R6 := hide ((unhide R6).keep (unhide B2))
      replace R7 := hide ((unhide R7).keep (unhide B2))
      replace R8 := hide ((unhide R8).keep (unhide B2))
      replace B := hide (bTr (unhide B) (unhide B2))
      clear B2 q1 q2 q3 q4 HSL
      cases T with
      | true =>
        have no := hide ((unhide HT).1 rfl)
        clear HT q7 q8 q9 R4 R6 R7
        go_upto_region 3 with fail
        iterate 4 (try (first | go_values | go_skip | go_guarded | go_step | go_upon | go_simp))
        refine wpList_store_row rfl 36 _ _ rfl (w.heap.size + 1 + 1 + 1) #[.string ⟨#[]⟩, .bool false, .int .i64 0, .int .i64 0, .int .i64 0, .string ⟨#[]⟩, .string ⟨#[]⟩, .string ⟨#[]⟩, .int .i64 0, .int .i64 0, .int .i64 0, .string ⟨#[]⟩, .string ⟨#[]⟩, .string ⟨#[]⟩, .int .i64 0, .int .i64 0, .int .i64 0, .string ⟨#[]⟩, .string ⟨#[]⟩, .string ⟨#[]⟩, .slice none 0 0] rfl rfl 36 _ (unhide R8) (by kernel_rfl) rfl (by simp [Value.oneCell']) ?_
        have Z6 := hide (setRow_heap _ (w.heap.size + 1 + 1 + 1) _ #[.string ⟨#[]⟩, .bool false, .int .i64 0, .int .i64 0, .int .i64 0, .string ⟨#[]⟩, .string ⟨#[]⟩, .string ⟨#[]⟩, .int .i64 0, .int .i64 0, .int .i64 0, .string ⟨#[]⟩, .string ⟨#[]⟩, .string ⟨#[]⟩, .int .i64 0, .int .i64 0, .int .i64 0, .string ⟨#[]⟩, .string ⟨#[]⟩, .string ⟨#[]⟩, .slice none 0 0] _ _ (unhide R8))
        go_wp2_with fail
        exact bodyPost_ret (v := .tuple #[zPol, .bool false]) (results_two rfl _ _ (w.heap.size + 1 + 1 + 1) 36 _ (0, 0) _ _ rfl rfl (unhide Z6) Try.underlying36 rfl (by kernel_rfl)) rfl ⟨.inr ⟨unhide no, rfl⟩, bRow (unhide B) (by omega) _⟩
      | false =>
        have yes : Hid (LinkC P id pr re) := hide (Classical.byContradiction fun h => by have := (unhide HT).2 h; cases this)
        obtain ⟨HP, eHP⟩ : ∃ H, linkH P.p pr = H := ⟨_, rfl⟩
        obtain ⟨HR, eHR⟩ : ∃ H, linkH P.r re = H := ⟨_, rfl⟩
        rw [eHP] at q7
        rw [eHR] at q8
        have EP := hide eHP
        have ER := hide eHR
        have ne6 : w.heap.size + 1 ≠ w.heap.size := by omega
        have ne7 : w.heap.size + 1 + 1 ≠ w.heap.size := by omega
        have ne8 : w.heap.size + 1 + 1 + 1 ≠ w.heap.size := by omega
        clear HT eHP eHR
        have c20 := (unhide R4).at (o := 20) (v := .slice (some ad) len cap) rfl
        have zz : w.heap.size + 1 + 1 + 1 + 1 ≤ wc.heap.size := by have := (unhide R8).lt; omega
        go_wp2_with fail
        refine (unhide q9 _ ((unhide HS).keep (unhide B))).mono ?_
        rintro e w1 ⟨⟨v, rfl, hown⟩, hb1⟩
        obtain ⟨a4, e4, ev⟩ := own_sl hown
        subst ev
        replace R4 := hide ((unhide R4).keep hb1)
        replace R6 := hide ((unhide R6).keep hb1)
        replace R7 := hide ((unhide R7).keep hb1)
        replace R8 := hide ((unhide R8).keep hb1)
        have szb : w.heap.size + 1 + 1 + 1 + 1 ≤ w1.heap.size := by have := (unhide R8).lt; omega
        have gb : Hid (∀ g, (Value.slice a4 len e4).ownBlock = some g → w.heap.size + 1 + 1 + 1 + 1 ≤ g) := hide (fun g e => by have := (hown.lt g e).1; have := zz; omega)
        have B3 := hide (bTr (unhide B) hb1)
        have HO := hide hown
        clear hb1 hown B c20 q9
        have c0 := (unhide R4).at (o := 0) (v := .string P.id) rfl
        have f0 := (unhide R4).froz 0
        have c20 := (unhide R4).at (o := 20) (v := .slice (some ad) len cap) rfl
        have f20 := (unhide R4).froz 20
        obtain ⟨W3, hW3⟩ : ∃ W, W = (w1.setCell ⟨w.heap.size, 0, none⟩ (.string id)).setCell ⟨w.heap.size, 20, none⟩ (.slice a4 len e4) := ⟨_, rfl⟩
        have S4 : Hid (RowIs W3 (w.heap.size) #[.string id, .bool P.pm, .int .i64 P.p.k, .int .i64 P.p.x, .int .i64 P.p.n, .string P.p.t, .string P.p.y, .string P.p.ty, .int .i64 P.a.k, .int .i64 P.a.x, .int .i64 P.a.n, .string P.a.t, .string P.a.y, .string P.a.ty, .int .i64 P.r.k, .int .i64 P.r.x, .int .i64 P.r.n, .string P.r.t, .string P.r.y, .string P.r.ty, .slice a4 len e4] 36) := hide (by have h := ((unhide R4).set 0 (.string id)).set 20 (.slice a4 len e4); simp only [List.setIfInBounds_toArray, List.set_cons_zero, List.set_cons_succ] at h; rw [hW3]; exact h)
        have S6 : Hid (RowIs W3 (w.heap.size + 1) #[.int .i64 pr.x, .int .i64 pr.n, .string pr.t, .string pr.y] 31) := hide (by rw [hW3]; exact ((unhide R6).setOther _ ne6).setOther _ ne6)
        have S7 : Hid (RowIs W3 (w.heap.size + 1 + 1) #[.int .i64 re.x, .int .i64 re.n, .string re.t, .string re.y] 31) := hide (by rw [hW3]; exact ((unhide R7).setOther _ ne7).setOther _ ne7)
        have S8 : Hid (RowIs W3 (w.heap.size + 1 + 1 + 1) #[.string ⟨#[]⟩, .bool false, .int .i64 0, .int .i64 0, .int .i64 0, .string ⟨#[]⟩, .string ⟨#[]⟩, .string ⟨#[]⟩, .int .i64 0, .int .i64 0, .int .i64 0, .string ⟨#[]⟩, .string ⟨#[]⟩, .string ⟨#[]⟩, .int .i64 0, .int .i64 0, .int .i64 0, .string ⟨#[]⟩, .string ⟨#[]⟩, .string ⟨#[]⟩, .slice none 0 0] 36) := hide (by rw [hW3]; exact ((unhide R8).setOther _ ne8).setOther _ ne8)
        have SB : Hid (Below w.heap.size w W3) := hide (by rw [hW3]; exact below_set (below_set (unhide B3) (Nat.le_refl _)) (Nat.le_refl _))
        have SO : Hid (W3.ownsRow w.heap.size 56 7 (.slice a4 len e4) len (ExprsV P.wh)) := hide (by rw [hW3]; exact own_base (own_set (own_set (unhide HO) (fun g e => by have := unhide gb g e; omega)) (fun g e => by have := unhide gb g e; omega)) (by omega))
        have HW3 := hide hW3.symm
        clear R4 R6 R7 R8 B3 HO hW3
        go_upto_region 5 with fail
        rw [unhide HW3]
        clear HW3 c0 f0 c20 f20
        go_cut [51] (fun _ wx => Hid (RowIs wx (w.heap.size) #[.string id, .bool P.pm, .int .i64 HP.k, .int .i64 HP.x, .int .i64 HP.n, .string HP.t, .string HP.y, .string HP.ty, .int .i64 P.a.k, .int .i64 P.a.x, .int .i64 P.a.n, .string P.a.t, .string P.a.y, .string P.a.ty, .int .i64 HR.k, .int .i64 HR.x, .int .i64 HR.n, .string HR.t, .string HR.y, .string HR.ty, .slice a4 len e4] 36) ∧ Hid (RowIs wx (w.heap.size + 1 + 1 + 1) #[.string ⟨#[]⟩, .bool false, .int .i64 0, .int .i64 0, .int .i64 0, .string ⟨#[]⟩, .string ⟨#[]⟩, .string ⟨#[]⟩, .int .i64 0, .int .i64 0, .int .i64 0, .string ⟨#[]⟩, .string ⟨#[]⟩, .string ⟨#[]⟩, .int .i64 0, .int .i64 0, .int .i64 0, .string ⟨#[]⟩, .string ⟨#[]⟩, .string ⟨#[]⟩, .slice none 0 0] 36) ∧ Hid (Below w.heap.size w wx) ∧ Hid (wx.ownsRow w.heap.size 56 7 (.slice a4 len e4) len (ExprsV P.wh)))
        case first =>
          clear yes ne6 ne7 HS EP ER
          refine wp_region_G (S := (fun w' => RowIs w' (w.heap.size) #[.string id, .bool P.pm, .int .i64 P.p.k, .int .i64 P.p.x, .int .i64 P.p.n, .string P.p.t, .string P.p.y, .string P.p.ty, .int .i64 P.a.k, .int .i64 P.a.x, .int .i64 P.a.n, .string P.a.t, .string P.a.y, .string P.a.ty, .int .i64 P.r.k, .int .i64 P.r.x, .int .i64 P.r.n, .string P.r.t, .string P.r.y, .string P.r.ty, .slice a4 len e4] 36 ∧ RowIs w' (w.heap.size + 1) #[.int .i64 pr.x, .int .i64 pr.n, .string pr.t, .string pr.y] 31 ∧ RowIs w' (w.heap.size + 1 + 1) #[.int .i64 re.x, .int .i64 re.n, .string re.t, .string re.y] 31)) [9, 11] (by kernel_rfl) (by exact ⟨unhide S4, unhide S6, unhide S7⟩) (fun hHeld => ?_)
          refine wpAnyG_take (i := 0) (oi := { dst := some 48, op := Op.fieldAddr 36 (Operand.tmp 4) 2, type := 0, pos := "l10_policy.go:727", after := #[], guard := none }) (v := .pointer (some ⟨w.heap.size, 2, none⟩)) rfl (by kernel_rfl) (by kernel_rfl) (by kernel_rfl) [] (by kernel_rfl) (by kernel_rfl) (by kernel_rfl) (fun _ _ _ h => h) (Or.inl ⟨by rfl, (by intro w hSw; (try go_simp); (try with_reducible rfl))⟩) (by assumption) ?_
          simp only [Act.put, List.setIfInBounds_toArray, List.set_cons_zero, List.set_cons_succ]
          refine wpAnyG_take (i := 1) (oi := { dst := some 49, op := Op.load 33 (Operand.tmp 48), type := 33, pos := "l10_policy.go:727", after := #[{ on := 0, ground := Ground.data }], guard := none }) (v := .agg #[.int .i64 P.p.k, .int .i64 P.p.x, .int .i64 P.p.n, .string P.p.t, .string P.p.y, .string P.p.ty]) rfl (by kernel_rfl) (by kernel_rfl) (by kernel_rfl) [] (by kernel_rfl) (by kernel_rfl) (by kernel_rfl) (fun _ _ _ h => h) (yieldsIf_load_mid (by rfl) 33 _ rfl (w.heap.size) 2 rfl [.int .i64 P.p.k, .int .i64 P.p.x, .int .i64 P.p.n, .string P.p.t, .string P.p.y, .string P.p.ty] _ (fun w h => range_row h.1 (by rfl)) Try.underlying33 (by rfl) (by kernel_rfl)) (by assumption) ?_
          simp only [Act.put, List.setIfInBounds_toArray, List.set_cons_zero, List.set_cons_succ]
          refine wpAnyG_take (i := 2) (oi := { dst := some 50, op := Op.load 31 (Operand.tmp 6), type := 31, pos := "l10_policy.go:727", after := #[], guard := none }) (v := .agg #[.int .i64 pr.x, .int .i64 pr.n, .string pr.t, .string pr.y]) rfl (by kernel_rfl) (by kernel_rfl) (by kernel_rfl) [] (by kernel_rfl) (by kernel_rfl) (by kernel_rfl) (fun _ _ _ h => h) (yields_row (by rfl) 31 _ rfl (w.heap.size + 1) rfl 31 _ _ (fun w h => h.2.1) Try.underlying31 rfl (by kernel_rfl)) (by assumption) ?_
          simp only [Act.put, List.setIfInBounds_toArray, List.set_cons_zero, List.set_cons_succ]
          refine wpAnyG_take (i := 4) (oi := { dst := some 52, op := Op.fieldAddr 36 (Operand.tmp 4) 4, type := 0, pos := "l10_policy.go:727", after := #[], guard := none }) (v := .pointer (some ⟨w.heap.size, 14, none⟩)) rfl (by kernel_rfl) (by kernel_rfl) (by kernel_rfl) [] (by kernel_rfl) (by kernel_rfl) (by kernel_rfl) (fun _ _ _ h => h) (Or.inl ⟨by rfl, (by intro w hSw; (try go_simp); (try with_reducible rfl))⟩) (by assumption) ?_
          simp only [Act.put, List.setIfInBounds_toArray, List.set_cons_zero, List.set_cons_succ]
          refine wpAnyG_take (i := 5) (oi := { dst := some 53, op := Op.load 33 (Operand.tmp 52), type := 33, pos := "l10_policy.go:727", after := #[{ on := 4, ground := Ground.data }], guard := none }) (v := .agg #[.int .i64 P.r.k, .int .i64 P.r.x, .int .i64 P.r.n, .string P.r.t, .string P.r.y, .string P.r.ty]) rfl (by kernel_rfl) (by kernel_rfl) (by kernel_rfl) [] (by kernel_rfl) (by kernel_rfl) (by kernel_rfl) (fun _ _ _ h => h) (yieldsIf_load_mid (by rfl) 33 _ rfl (w.heap.size) 14 rfl [.int .i64 P.r.k, .int .i64 P.r.x, .int .i64 P.r.n, .string P.r.t, .string P.r.y, .string P.r.ty] _ (fun w h => range_row h.1 (by rfl)) Try.underlying33 (by rfl) (by kernel_rfl)) (by assumption) ?_
          simp only [Act.put, List.setIfInBounds_toArray, List.set_cons_zero, List.set_cons_succ]
          refine wpAnyG_take (i := 6) (oi := { dst := some 54, op := Op.load 31 (Operand.tmp 7), type := 31, pos := "l10_policy.go:727", after := #[], guard := none }) (v := .agg #[.int .i64 re.x, .int .i64 re.n, .string re.t, .string re.y]) rfl (by kernel_rfl) (by kernel_rfl) (by kernel_rfl) [7] (by kernel_rfl) (by kernel_rfl) (by kernel_rfl) (fun _ _ _ h => h) (yields_row (by rfl) 31 _ rfl (w.heap.size + 1 + 1) rfl 31 _ _ (fun w h => h.2.2) Try.underlying31 rfl (by kernel_rfl)) (by assumption) ?_
          simp only [Act.put, List.setIfInBounds_toArray, List.set_cons_zero, List.set_cons_succ]
          refine wpAnyG_ready (rs := [3]) (by kernel_rfl) (by simp) ?_
          refine AllReadyG.cons (o := { dst := some 51, op := Op.call { callee := Callee.value (Operand.func 27), args := #[Operand.tmp 49, Operand.tmp 50], argTypes := #[33, 31] }, type := 33, pos := "l10_policy.go:727", after := #[{ on := 1, ground := Ground.data }, { on := 2, ground := Ground.data }], guard := none }) rfl (fun K hK => ?_) AllReadyG.nil
          clear hHeld
          refine step_call2 _ (by rfl) 27 _ _ _ (by rfl) (.agg #[.int .i64 P.p.k, .int .i64 P.p.x, .int .i64 P.p.n, .string P.p.t, .string P.p.y, .string P.p.ty]) (.agg #[.int .i64 pr.x, .int .i64 pr.n, .string pr.t, .string pr.y]) (by rfl) (by rfl) (entY_of Try.func27 (by kernel_rfl) (by kernel_rfl)) (unhide q7 _) ?_
          rintro e wX3 ⟨rfl, hbX⟩
          replace hbX := undrew hbX
          replace S4 := hide ((unhide S4).keep hbX)
          replace S6 := hide ((unhide S6).keep hbX)
          replace S7 := hide ((unhide S7).keep hbX)
          replace S8 := hide ((unhide S8).keep hbX)
          replace SB := hide (bTr (unhide SB) hbX)
          replace SO := hide (own_keepT (unhide SO) hbX)
          clear hbX q7
          refine ⟨_, rfl, ?_⟩
          refine hK.out _ _ ⟨unhide S4, unhide S6, unhide S7⟩ (fun hHeld => ?_)
          clear hK
          simp only [Act.put, List.setIfInBounds_toArray, List.set_cons_zero, List.set_cons_succ]
          refine wpAnyG_take (i := 8) (oi := { dst := some 56, op := Op.fieldAddr 36 (Operand.tmp 4) 2, type := 0, pos := "l10_policy.go:727", after := #[{ on := 0, ground := Ground.phase }, { on := 1, ground := Ground.phase }, { on := 2, ground := Ground.phase }, { on := 3, ground := Ground.phase }, { on := 4, ground := Ground.phase }, { on := 5, ground := Ground.phase }, { on := 6, ground := Ground.textOnly Departure.lateStores }, { on := 7, ground := Ground.textOnly Departure.lateStoresUnsure }], guard := none }) (v := .pointer (some ⟨w.heap.size, 2, none⟩)) rfl (by kernel_rfl) (by kernel_rfl) (by kernel_rfl) [] (by kernel_rfl) (by kernel_rfl) (by kernel_rfl) (fun _ _ _ h => h) (Or.inl ⟨by rfl, (by intro w hSw; (try go_simp); (try with_reducible rfl))⟩) (by assumption) ?_
          simp only [Act.put, List.setIfInBounds_toArray, List.set_cons_zero, List.set_cons_succ]
          refine wpAnyG_ready (rs := [7]) (by kernel_rfl) (by simp) ?_
          refine AllReadyG.cons (o := { dst := some 55, op := Op.call { callee := Callee.value (Operand.func 27), args := #[Operand.tmp 53, Operand.tmp 54], argTypes := #[33, 31] }, type := 33, pos := "l10_policy.go:727", after := #[{ on := 5, ground := Ground.data }, { on := 6, ground := Ground.data }, { on := 3, ground := Ground.chain }], guard := none }) rfl (fun K hK => ?_) AllReadyG.nil
          clear hHeld
          refine step_call2 _ (by rfl) 27 _ _ _ (by rfl) (.agg #[.int .i64 P.r.k, .int .i64 P.r.x, .int .i64 P.r.n, .string P.r.t, .string P.r.y, .string P.r.ty]) (.agg #[.int .i64 re.x, .int .i64 re.n, .string re.t, .string re.y]) (by rfl) (by rfl) (entY_of Try.func27 (by kernel_rfl) (by kernel_rfl)) (unhide q8 _) ?_
          rintro e wX7 ⟨rfl, hbX⟩
          replace S4 := hide ((unhide S4).keep hbX)
          replace S6 := hide ((unhide S6).keep hbX)
          replace S7 := hide ((unhide S7).keep hbX)
          replace S8 := hide ((unhide S8).keep hbX)
          replace SB := hide (bTr (unhide SB) hbX)
          replace SO := hide (own_keepT (unhide SO) hbX)
          clear hbX q8
          refine ⟨_, rfl, ?_⟩
          refine hK.out _ _ ⟨unhide S4, unhide S6, unhide S7⟩ (fun hHeld => ?_)
          clear hK
          simp only [Act.put, List.setIfInBounds_toArray, List.set_cons_zero, List.set_cons_succ]
          clear hHeld
          have z2 := (unhide S4).at (o := 2) (v := .int .i64 P.p.k) rfl
          have zf2 := (unhide S4).froz 2
          have z3 := (unhide S4).at (o := 3) (v := .int .i64 P.p.x) rfl
          have zf3 := (unhide S4).froz 3
          have z4 := (unhide S4).at (o := 4) (v := .int .i64 P.p.n) rfl
          have zf4 := (unhide S4).froz 4
          have z5 := (unhide S4).at (o := 5) (v := .string P.p.t) rfl
          have zf5 := (unhide S4).froz 5
          have z6 := (unhide S4).at (o := 6) (v := .string P.p.y) rfl
          have zf6 := (unhide S4).froz 6
          have z7 := (unhide S4).at (o := 7) (v := .string P.p.ty) rfl
          have zf7 := (unhide S4).froz 7
          have z14 := (unhide S4).at (o := 14) (v := .int .i64 P.r.k) rfl
          have zf14 := (unhide S4).froz 14
          have z15 := (unhide S4).at (o := 15) (v := .int .i64 P.r.x) rfl
          have zf15 := (unhide S4).froz 15
          have z16 := (unhide S4).at (o := 16) (v := .int .i64 P.r.n) rfl
          have zf16 := (unhide S4).froz 16
          have z17 := (unhide S4).at (o := 17) (v := .string P.r.t) rfl
          have zf17 := (unhide S4).froz 17
          have z18 := (unhide S4).at (o := 18) (v := .string P.r.y) rfl
          have zf18 := (unhide S4).froz 18
          have z19 := (unhide S4).at (o := 19) (v := .string P.r.ty) rfl
          have zf19 := (unhide S4).froz 19
          refine wpAnyG_ready (rs := [9]) (by kernel_rfl) (by simp) ?_
          refine AllReadyG.late (o := { dst := none, op := Op.store 33 (Operand.tmp 56) (Operand.tmp 51), type := 0, pos := "l10_policy.go:727", after := #[{ on := 8, ground := Ground.data }, { on := 3, ground := Ground.data }, { on := 7, ground := Ground.chain }, { on := 0, ground := Ground.phase }, { on := 1, ground := Ground.phase }, { on := 2, ground := Ground.phase }, { on := 3, ground := Ground.phase }, { on := 4, ground := Ground.phase }, { on := 5, ground := Ground.phase }, { on := 6, ground := Ground.textOnly Departure.lateStores }, { on := 7, ground := Ground.textOnly Departure.lateStoresUnsure }], guard := none }) rfl (by kernel_rfl) (fun K hK => ?_) AllReadyG.nil
          rw [if_pos (by rfl)]
          have HK := hide hK
          clear hK
          go_wp2_with fail
          refine (unhide HK).out _ _ ?_
          clear HK
          refine wpAnyG_ready (rs := [10]) (by kernel_rfl) (by simp) ?_
          refine AllReadyG.late (o := { dst := some 57, op := Op.fieldAddr 36 (Operand.tmp 4) 4, type := 0, pos := "l10_policy.go:727", after := #[{ on := 0, ground := Ground.phase }, { on := 1, ground := Ground.phase }, { on := 2, ground := Ground.phase }, { on := 3, ground := Ground.phase }, { on := 4, ground := Ground.phase }, { on := 5, ground := Ground.phase }, { on := 6, ground := Ground.phase }, { on := 7, ground := Ground.phase }, { on := 8, ground := Ground.phase }, { on := 9, ground := Ground.phase }], guard := none }) rfl (by kernel_rfl) (fun K hK => ?_) AllReadyG.nil
          rw [if_pos (by rfl)]
          have HK := hide hK
          clear hK
          go_wp2_with fail
          refine (unhide HK).out _ _ ?_
          clear HK
          refine wpAnyG_ready (rs := [11]) (by kernel_rfl) (by simp) ?_
          refine AllReadyG.late (o := { dst := none, op := Op.store 33 (Operand.tmp 57) (Operand.tmp 55), type := 0, pos := "l10_policy.go:727", after := #[{ on := 10, ground := Ground.data }, { on := 7, ground := Ground.data }, { on := 9, ground := Ground.chain }, { on := 0, ground := Ground.phase }, { on := 1, ground := Ground.phase }, { on := 2, ground := Ground.phase }, { on := 3, ground := Ground.phase }, { on := 4, ground := Ground.phase }, { on := 5, ground := Ground.phase }, { on := 6, ground := Ground.phase }, { on := 7, ground := Ground.phase }, { on := 8, ground := Ground.phase }, { on := 9, ground := Ground.phase }], guard := none }) rfl (by kernel_rfl) (fun K hK => ?_) AllReadyG.nil
          rw [if_pos (by rfl)]
          have HK := hide hK
          clear hK
          go_wp2_with fail
          refine (unhide HK).out _ _ ?_
          clear HK
          refine wpAnyG_done (by kernel_rfl) ?_ _
          go_wp2_with fail
          have XX := (((((((((((((unhide S4).set 2 (.int .i64 HP.k)).set 3 (.int .i64 HP.x)).set 4 (.int .i64 HP.n)).set 5 (.string HP.t)).set 6 (.string HP.y)).set 7 (.string HP.ty)).set 14 (.int .i64 HR.k)).set 15 (.int .i64 HR.x)).set 16 (.int .i64 HR.n)).set 17 (.string HR.t)).set 18 (.string HR.y)).set 19 (.string HR.ty))
          simp only [List.setIfInBounds_toArray, List.set_cons_zero, List.set_cons_succ] at XX
          go_meet
          exact ⟨hide XX, hide (((((((((((((unhide S8).setOther _ ne8).setOther _ ne8).setOther _ ne8).setOther _ ne8).setOther _ ne8).setOther _ ne8).setOther _ ne8).setOther _ ne8).setOther _ ne8).setOther _ ne8).setOther _ ne8).setOther _ ne8), hide ((below_set (below_set (below_set (below_set (below_set (below_set (below_set (below_set (below_set (below_set (below_set (below_set (unhide SB) (Nat.le_refl _)) (Nat.le_refl _)) (Nat.le_refl _)) (Nat.le_refl _)) (Nat.le_refl _)) (Nat.le_refl _)) (Nat.le_refl _)) (Nat.le_refl _)) (Nat.le_refl _)) (Nat.le_refl _)) (Nat.le_refl _)) (Nat.le_refl _))), hide ((own_set (own_set (own_set (own_set (own_set (own_set (own_set (own_set (own_set (own_set (own_set (own_set (unhide SO) (fun g e => by have := unhide gb g e; omega)) (fun g e => by have := unhide gb g e; omega)) (fun g e => by have := unhide gb g e; omega)) (fun g e => by have := unhide gb g e; omega)) (fun g e => by have := unhide gb g e; omega)) (fun g e => by have := unhide gb g e; omega)) (fun g e => by have := unhide gb g e; omega)) (fun g e => by have := unhide gb g e; omega)) (fun g e => by have := unhide gb g e; omega)) (fun g e => by have := unhide gb g e; omega)) (fun g e => by have := unhide gb g e; omega)) (fun g e => by have := unhide gb g e; omega)))⟩
        case rest =>
          obtain ⟨X4, X8, XB, XO⟩ := hcut
          clear S4 S6 S7 S8 SB SO q7 q8
          go_upto_region 6 with fail
          go_step
          refine wpList_load_row rfl 36 _ rfl (w.heap.size) rfl 36 _ (0, 0) _ (unhide X4) Try.underlying36 rfl (by kernel_rfl) ?_
          refine wpList_store_row rfl 36 _ _ rfl (w.heap.size + 1 + 1 + 1) #[.string id, .bool P.pm, .int .i64 HP.k, .int .i64 HP.x, .int .i64 HP.n, .string HP.t, .string HP.y, .string HP.ty, .int .i64 P.a.k, .int .i64 P.a.x, .int .i64 P.a.n, .string P.a.t, .string P.a.y, .string P.a.ty, .int .i64 HR.k, .int .i64 HR.x, .int .i64 HR.n, .string HR.t, .string HR.y, .string HR.ty, .slice a4 len e4] rfl rfl 36 _ (unhide X8) (by kernel_rfl) rfl (by simp [Value.oneCell']) ?_
          have Z6 := hide (setRow_heap _ (w.heap.size + 1 + 1 + 1) _ #[.string id, .bool P.pm, .int .i64 HP.k, .int .i64 HP.x, .int .i64 HP.n, .string HP.t, .string HP.y, .string HP.ty, .int .i64 P.a.k, .int .i64 P.a.x, .int .i64 P.a.n, .string P.a.t, .string P.a.y, .string P.a.ty, .int .i64 HR.k, .int .i64 HR.x, .int .i64 HR.n, .string HR.t, .string HR.y, .string HR.ty, .slice a4 len e4] _ _ (unhide X8))
          go_wp2_with fail
          refine bodyPost_ret (v := .tuple #[.agg #[.string id, .bool P.pm, .int .i64 HP.k, .int .i64 HP.x, .int .i64 HP.n, .string HP.t, .string HP.y, .string HP.ty, .int .i64 P.a.k, .int .i64 P.a.x, .int .i64 P.a.n, .string P.a.t, .string P.a.y, .string P.a.ty, .int .i64 HR.k, .int .i64 HR.x, .int .i64 HR.n, .string HR.t, .string HR.y, .string HR.ty, .slice a4 len e4], .bool true]) (results_two rfl _ _ (w.heap.size + 1 + 1 + 1) 36 _ (0, 0) _ _ rfl rfl (unhide Z6) Try.underlying36 rfl (by kernel_rfl)) rfl ⟨.inl ⟨unhide yes, .slice a4 len e4, by simp only [linkP, unhide EP, unhide ER], ?_⟩, bRow (unhide XB) (by omega) _⟩
          exact own_row (unhide XO) (fun g e => by have := unhide gb g e; omega)
end Go.Proofs.Ytcajlndbaipcaaa.V
