/- YLp, YHg, one behind the other. -/
import Derived.Test.YtcajlndbaipcaaaJ23
import Derived.Deep.RegionHeld3
/- What LinkPolicy answers. -/
namespace Go.Proofs.Ytcajlndbaipcaaa.V
open Go.RowKit Go.Maps

def linkP (P : PolT) (id : ByteArray) (pr re : AtomT) : PolT := ⟨id, P.pm, linkH P.p pr, P.a, linkH P.r re, P.wh⟩
def RefP (a : AtomT) : Prop := a.x = 4 ∧ goodAtom a.x a.n a.t a.y = true
def LinkC (P : PolT) (id : ByteArray) (pr re : AtomT) : Prop := GPol P ∧ idB id = true ∧ RefP pr ∧ RefP re ∧ ((P.p.k = 5 ∨ P.p.k = 6) ∨ (P.r.k = 5 ∨ P.r.k = 6))
def zPol : Value := .agg #[.string ⟨#[]⟩, .bool false, .int .i64 0, .int .i64 0, .int .i64 0, .string ⟨#[]⟩, .string ⟨#[]⟩, .string ⟨#[]⟩, .int .i64 0, .int .i64 0, .int .i64 0, .string ⟨#[]⟩, .string ⟨#[]⟩, .string ⟨#[]⟩, .int .i64 0, .int .i64 0, .int .i64 0, .string ⟨#[]⟩, .string ⟨#[]⟩, .string ⟨#[]⟩, .slice none 0 0]
def LinkEnd (w' : World) (base : Nat) (P : PolT) (len : Nat) (id : ByteArray) (pr re : AtomT) (e : Ending) : Prop :=
  (LinkC P id pr re ∧ ∃ v, e = .returned (.tuple #[polAgg (linkP P id pr re) v, .bool true]) ∧ w'.ownsRow base 56 7 v len (ExprsV P.wh)) ∨ (¬ LinkC P id pr re ∧ e = .returned (.tuple #[zPol, .bool false]))
theorem linked_cells (k x n : Int) (t y ty : ByteArray) (ax an : Int) (at_ ay : ByteArray) (w : World) :
    Calls Try.prog 27 #[.agg #[.int .i64 k, .int .i64 x, .int .i64 n, .string t, .string y, .string ty], .agg #[.int .i64 ax, .int .i64 an, .string at_, .string ay]] w fun e w' => e = .returned (hAgg (linkH ⟨k, x, n, t, y, ty⟩ ⟨ax, an, at_, ay⟩)) ∧ Below w.heap.size w w' := linkedHead_any ⟨k, x, n, t, y, ty⟩ ⟨ax, an, at_, ay⟩ w
theorem own_row {w : World} {base e size n b : Nat} {v : Value} {xs : List Value} {cs : Array Value} (h : w.ownsRow base e size v n xs) (hne : ∀ g, v.ownBlock = some g → g ≠ b) : (w.setRow b cs).ownsRow base e size v n xs := by
  refine ⟨h.1, h.2.imp_right ?_⟩
  rintro ⟨g, cap, cur, e', h1, hh, r⟩
  refine ⟨g, cap, cur, e', h1, ?_, r⟩
  rw [setRow_other _ _ _ _ (hne g (by rw [e']; rfl))]; exact hh
theorem results_two {P : Program} {fn : Func} {p q : Tmp} {ty : TypeId} (h : fn.results = #[.cell p ty, .tmp q]) (tmps : Array Value) (w : World) (g : Nat) (t : TypeId) (cs : Array Value) (fr : Nat × Nat) (d : TypeDesc) (v : Value)
    (hp : tmps.getD p undef = .pointer (some ⟨g, 0, none⟩)) (hq : tmps.getD q undef = v) (hg : w.heap[g]? = some (.cells cs t fr))
    (hu : P.underlying ty = some d) (hd : (match d with | .struct _ | .array _ _ => true | _ => false) = true) (hi : (P.info? ty).map (·.size) = some cs.size) :
    (results fn tmps).run P w = .ok (.tuple #[.agg cs, v]) w := by
  have hp' : tmps[p]?.getD undef = .pointer (some ⟨g, 0, none⟩) := by simpa using hp
  have hq' : tmps[q]?.getD undef = v := by simpa using hq
  simp [results, h, hp', hq', asAddr, run_loadVar_row w g t ty cs fr d hg hu hd hi]
end Go.Proofs.Ytcajlndbaipcaaa.V
/- A region that draws its order, loads cells and stores into them behind all loads: the fact about the cells is asked only while none of the stores has come up. -/
namespace Go.Proofs.Ytcajlndbaipcaaa.V
open Go.RowKit

section
variable {P : Program} {ops : Array Oper} {Q : Exit → Act → World → Prop} {md : Region.Mode} {S : World → Prop} {st ms : List Nat}

/-- None of the stores is listed. -/
def NoSt (st : List Nat) (listed : Array Bool) : Prop := ∀ k ∈ st, listed.getD k true = false
theorem NoSt.set {listed : Array Bool} {j : Nat} (h : NoSt st listed) (hj : j ∉ st) : NoSt st (listed.setIfInBounds j true) := fun k hk => by
  rw [getD_set_ne true (show j ≠ k from fun e => hj (by rw [e]; exact hk))]; exact h k hk

def wpAnyG (P : Program) (md : Region.Mode) (ops : Array Oper) (Q : Exit → Act → World → Prop) (S : World → Prop) (st : List Nat) : Nat → Array Bool → Act → World → Prop
  | 0, listed, a, w => Region.ready md ops listed = [] ∧ Q .normal a w
  | fuel + 1, listed, a, w =>
    (Region.ready md ops listed = [] → Q .normal a w) ∧
    ∀ i ∈ Region.ready md ops listed, wpOp P ops Q i (fun a' w' => (NoSt st (listed.setIfInBounds i true) → S w') ∧ wpAnyG P md ops Q S st fuel (listed.setIfInBounds i true) a' w') a w

theorem wpAny_of_G : ∀ (fuel : Nat) (listed : Array Bool) (a : Act) (w : World), wpAnyG P md ops Q S st fuel listed a w → wpAny P md ops Q fuel listed a w
  | 0, _, _, _, h => h
  | fuel + 1, _, _, _, h => ⟨h.1, fun i hi => wpOp_mono (fun a' w' h' => wpAny_of_G fuel _ a' w' h'.2) (h.2 i hi)⟩

theorem wpAnyG_first {i : Nat} {oi : Oper} {v : Value} (hi : ops[i]? = some oi) (hsel : ∀ (j : Nat) (o : Oper) cs b, ops[j]? = some o → o.op ≠ .select cs b)
    (hQ : ∀ c a w, Q (.panic c) (a.put oi.dst v) w → Q (.panic c) a w) (hist : i ∉ st)
    (hms : ∀ m ∈ ms, ∀ om, ops[m]? = some om → ∃ e ∈ om.after, Region.binds md e = true ∧ e.on = i)
    (hst : ∀ k ∈ st, ∀ ok, ops[k]? = some ok → ∃ e ∈ ok.after, Region.binds md e = true ∧ (e.on = i ∨ e.on ∈ ms)) :
    ∀ (fuel : Nat) (listed : Array Bool) (a : Act) (w : World), NoSt st listed → NoSt ms listed →
      (∀ j oj, ops[j]? = some oj → j ≠ i → listed.getD j true = false → (∀ e ∈ oj.after, Region.binds md e = true → e.on ≠ i) → oi.apart ops oj = true) →
      i ∈ Region.ready md ops listed → YieldsIf P ops S oi v a → S w →
      wpAnyG P md ops Q S st fuel (listed.setIfInBounds i true) (a.put oi.dst v) w → wpAnyG P md ops Q S st (fuel + 1) listed a w := by
  intro fuel
  induction fuel with
  | zero =>
    intro listed a w _ _ _ hr hy hS H
    refine ⟨fun h => (by rw [h] at hr; cases hr), fun j hj => ?_⟩
    by_cases hji : j = i
    · subst hji; exact hy.wpOp hi hS ⟨fun _ => hS, H⟩
    · have := ready_mono hj hji
      rw [H.1] at this
      cases this
  | succ fuel ih =>
    intro listed a w hno hnm hfree hr hy hS H
    refine ⟨fun h => (by rw [h] at hr; cases hr), fun j hj => ?_⟩
    by_cases hji : j = i
    · subst hji; exact hy.wpOp hi hS ⟨fun _ => hS, H⟩
    · have h1 := H.2 j (ready_mono hj hji)
      obtain ⟨hjun, oj, hoj, hall⟩ := mem_ready.1 hj
      have hnot : ∀ e ∈ oj.after, Region.binds md e = true → e.on ≠ i := fun e he hb heq => by
        have h1 := hall e he hb
        have h0 := (mem_ready.1 hr).1
        rw [heq] at h1
        rcases Nat.lt_or_ge i listed.size with h' | h'
        · simp [h'] at h0 h1; rw [h0] at h1; cases h1
        · simp [Array.getElem?_eq_none h'] at h1
      have hjms : j ∉ ms := fun hm => by
        obtain ⟨e, he, hb, heq⟩ := hms j hm oj hoj
        exact hnot e he hb heq
      have hjst : j ∉ st := fun hm => by
        obtain ⟨e, he, hb, heq | heq⟩ := hst j hm oj hoj
        · exact hnot e he hb heq
        · have h1 := hall e he hb
          have h0 := hnm _ heq
          rcases Nat.lt_or_ge e.on listed.size with h' | h'
          · simp [h'] at h0 h1; rw [h0] at h1; cases h1
          · simp [Array.getElem?_eq_none h'] at h1
      have h2 := wpOp_putIf hoj (hfree j oj hoj hji hjun hnot) (fun cs b => hsel i oi cs b hi) (fun cs b => hsel j oj cs b hoj) hQ hy h1
      have hfree' : ∀ k ok, ops[k]? = some ok → k ≠ i → (listed.setIfInBounds j true).getD k true = false →
          (∀ e ∈ ok.after, Region.binds md e = true → e.on ≠ i) → oi.apart ops ok = true := fun k ok hk hki hun hno => by
        refine hfree k ok hk hki ?_ hno
        by_cases hjk : j = k
        · subst hjk; exact hjun
        · rw [getD_set_ne true hjk] at hun; exact hun
      refine wpOp_mono (fun a' w' h3 => ?_) h2
      have hS' : S w' := h3.2.1 ((hno.set hist).set hjst)
      refine ⟨fun _ => hS', ih (listed.setIfInBounds j true) a' w' (hno.set hjst) (hnm.set hjms) hfree' (ready_mono hr (Ne.symm hji)) h3.1 hS' ?_⟩
      rw [Array.setIfInBounds_comm _ _ hji]
      exact h3.2.2

/-- The stores wait for number i, straight or by way of those in ms: one closed Bool. -/
def waits (md : Region.Mode) (ops : Array Oper) (st ms : List Nat) (i : Nat) : Bool :=
  (ms.all fun m => match ops[m]? with | some om => om.after.any fun e => Region.binds md e && e.on == i | none => true) &&
  st.all fun k => k != i && match ops[k]? with | some ok => ok.after.any fun e => Region.binds md e && (e.on == i || ms.contains e.on) | none => true
def noSt (st : List Nat) (listed : Array Bool) : Bool := st.all fun k => listed.getD k true == false
theorem noSt_spec {listed : Array Bool} (h : noSt st listed = true) : NoSt st listed := fun k hk => by
  have := List.all_eq_true.1 h k hk
  simpa using this
theorem waits_spec {i : Nat} (h : waits md ops st ms i = true) : i ∉ st ∧ (∀ m ∈ ms, ∀ om, ops[m]? = some om → ∃ e ∈ om.after, Region.binds md e = true ∧ e.on = i) ∧ ∀ k ∈ st, ∀ ok, ops[k]? = some ok → ∃ e ∈ ok.after, Region.binds md e = true ∧ (e.on = i ∨ e.on ∈ ms) := by
  unfold waits at h
  rw [Bool.and_eq_true] at h
  obtain ⟨h1, h2⟩ := h
  refine ⟨fun hm => ?_, fun m hm om ho => ?_, fun k hk ok ho => ?_⟩
  · have := List.all_eq_true.1 h2 i hm
    simp at this
  · have := List.all_eq_true.1 h1 m hm
    rw [ho] at this
    simp only [Array.any_eq_true'] at this
    obtain ⟨e, he, hb⟩ := this
    rw [Bool.and_eq_true] at hb
    exact ⟨e, he, hb.1, by simpa using hb.2⟩
  · have := List.all_eq_true.1 h2 k hk
    rw [ho] at this
    simp only [Bool.and_eq_true, Array.any_eq_true'] at this
    obtain ⟨e, he, hb⟩ := this.2
    refine ⟨e, he, hb.1, ?_⟩
    have := hb.2
    rw [Bool.or_eq_true] at this
    exact this.imp (fun h => by simpa using h) (fun h => by simpa using h)

theorem wpAnyG_take {i : Nat} {oi : Oper} {v : Value} {fuel : Nat} {listed : Array Bool} {a : Act} {w : World} (hi : ops[i]? = some oi)
    (hs : Region.noSelect ops = true) (hf : Region.free md ops listed i = true) (hr : (Region.ready md ops listed).contains i = true) (ms : List Nat) (hn : noSt st listed = true) (hnm : noSt ms listed = true) (hwt : waits md ops st ms i = true)
    (hQ : ∀ c a w, Q (.panic c) (a.put oi.dst v) w → Q (.panic c) a w) (hy : YieldsIf P ops S oi v a) (hS : S w)
    (h : wpAnyG P md ops Q S st fuel (listed.setIfInBounds i true) (a.put oi.dst v) w) : wpAnyG P md ops Q S st (fuel + 1) listed a w :=
  wpAnyG_first hi (Region.noSelect_spec hs) hQ (waits_spec hwt).1 (waits_spec hwt).2.1 (waits_spec hwt).2.2 fuel listed a w (noSt_spec hn) (noSt_spec hnm) (Region.free_spec hi hf) (by simpa using hr) hy hS h

def AllReadyG (P : Program) (md : Region.Mode) (ops : Array Oper) (Q : Exit → Act → World → Prop) (S : World → Prop) (st : List Nat) (fuel : Nat) (listed : Array Bool) (a : Act) (w : World) (rs : List Nat) : Prop :=
  ∀ i ∈ rs, wpOp P ops Q i (fun a' w' => (NoSt st (listed.setIfInBounds i true) → S w') ∧ wpAnyG P md ops Q S st fuel (listed.setIfInBounds i true) a' w') a w
theorem AllReadyG.nil {fuel : Nat} {listed : Array Bool} {a : Act} {w : World} : AllReadyG P md ops Q S st fuel listed a w [] := fun _ h => by cases h
/-- A call comes up: S is shown anew behind it. -/
theorem AllReadyG.cons {fuel : Nat} {listed : Array Bool} {a : Act} {w : World} {i : Nat} {o : Oper} {rs : List Nat} (ho : ops[i]? = some o)
    (h : ∀ K' : Act → World → Prop, Shut (∀ a w, S w → (S w → wpAnyG P md ops Q S st fuel (listed.setIfInBounds i true) a w) → K' a w) → if Region.wanted o (yielded ops a.tmps) = true then Oper.wp P o a w K' Q else K' (a.put o.dst undef) w)
    (hs : AllReadyG P md ops Q S st fuel listed a w rs) : AllReadyG P md ops Q S st fuel listed a w (i :: rs) := fun j hj => by
  rcases List.mem_cons.1 hj with rfl | hj
  · exact wpOp_step ho (fun K' hK => h K' (fun a w hS hW => hK a w ⟨fun _ => hS, hW hS⟩))
  · exact hs j hj
theorem noSt_of {listed : Array Bool} (h : NoSt st listed) : noSt st listed = true := List.all_eq_true.2 fun k hk => by simp [h k hk]
/-- A store comes up, or what comes behind one: nothing is shown behind it. -/
theorem AllReadyG.late {fuel : Nat} {listed : Array Bool} {a : Act} {w : World} {i : Nat} {o : Oper} {rs : List Nat} (ho : ops[i]? = some o) (hno : noSt st (listed.setIfInBounds i true) = false)
    (h : ∀ K' : Act → World → Prop, Shut (∀ a w, wpAnyG P md ops Q S st fuel (listed.setIfInBounds i true) a w → K' a w) → if Region.wanted o (yielded ops a.tmps) = true then Oper.wp P o a w K' Q else K' (a.put o.dst undef) w)
    (hs : AllReadyG P md ops Q S st fuel listed a w rs) : AllReadyG P md ops Q S st fuel listed a w (i :: rs) := fun j hj => by
  rcases List.mem_cons.1 hj with rfl | hj
  · refine wpOp_step ho (fun K' hK => h K' (fun a w hW => hK a w ⟨fun hn => ?_, hW⟩))
    rw [noSt_of hn] at hno
    cases hno
  · exact hs j hj
theorem wpAnyG_ready {rs : List Nat} {fuel : Nat} {listed : Array Bool} {a : Act} {w : World} (hr : Region.ready md ops listed = rs) (hne : rs ≠ [])
    (h : AllReadyG P md ops Q S st fuel listed a w rs) : wpAnyG P md ops Q S st (fuel + 1) listed a w := ⟨fun h0 => absurd (hr ▸ h0) hne, hr ▸ h⟩
theorem wpAnyG_done {listed : Array Bool} {a : Act} {w : World} (hr : Region.ready md ops listed = []) (h : Q .normal a w) :
    ∀ fuel, wpAnyG P md ops Q S st fuel listed a w
  | 0 => ⟨hr, h⟩
  | _ + 1 => ⟨fun _ => h, by rw [hr]; simp⟩
theorem wp_region_G {id : Nat} {a : Act} {w : World} (st : List Nat) (hm : P.follows .mixedOrders = true) (hS : S w.drew)
    (h : S w.drew → wpAnyG P .any ops Q S st ops.size (Array.replicate ops.size false) a w.drew) : (Code.region id ops true).wp P Q a w :=
  wp_region_any hm (wpAny_of_G _ _ _ _ (h hS))
end
end Go.Proofs.Ytcajlndbaipcaaa.V
