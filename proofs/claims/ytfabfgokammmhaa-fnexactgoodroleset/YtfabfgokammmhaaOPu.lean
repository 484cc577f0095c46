/- Sets of roles: what is asked of them, and what comes under what. Pure. -/
import Derived.Test.YtfabfgokammmhaaORs
import Derived.Test.YtfabfgokammmhaaWCmp
import Derived.Test.YtfabfgokammmhaaGKeys
namespace Go.Proofs.Ytfabfgokammmhaa.V
set_option linter.unusedSimpArgs false
open Go.RowKit Go.Maps

theorem cmpN_both (a b : Int) : Go.Proofs.Ytfabfgokammmhaa.cmpN a b = cmpN a b := rfl
theorem cmpT_both : ∀ a b : List UInt8, Go.Proofs.Ytfabfgokammmhaa.cmpT a b = cmpT a b
  | [], [] => rfl
  | [], _ :: _ => rfl
  | _ :: _, [] => rfl
  | a :: x, b :: y => by
    show (if a = b then Go.Proofs.Ytfabfgokammmhaa.cmpT x y else _) = (if a = b then cmpT x y else _)
    rw [cmpT_both x y]; rfl
theorem cmpB_both (a b : ByteArray) : Go.Proofs.Ytfabfgokammmhaa.cmpB a b = cmpT a.data.toList b.data.toList := cmpT_both _ _
/-- Texts that rise, one behind the other. -/
def RisT (l : List ByteArray) : Prop := ∀ i (h : i + 1 < l.length), cmpT l[i].data.toList l[i + 1].data.toList < 0
theorem RisT.tail {x : ByteArray} {l : List ByteArray} (h : RisT (x :: l)) : RisT l := fun i hi => h (i + 1) (by simpa using hi)
theorem RisT.risS : ∀ {l : List ByteArray}, RisT l → RisS l
  | [], _ => List.Pairwise.nil
  | [x], _ => List.pairwise_singleton _ _
  | x :: y :: l, h => by
    have h1 : RisS (y :: l) := h.tail.risS
    refine List.pairwise_cons.2 ⟨fun z hz => ?_, h1⟩
    have h0 : cmpB x y < 0 := by rw [cmpB_both]; exact h 0 (by simp)
    rcases List.mem_cons.1 hz with e | e
    · rw [e]; exact h0
    · exact cmpB_tr _ _ _ h0 ((List.pairwise_cons.1 h1).1 z e)
theorem RisT.nodup {l : List ByteArray} (h : RisT l) : l.Nodup := h.risS.imp fun {a b} hab e => by subst e; exact cmpB_irr a hab

def AllR (ns l : List ByteArray) : Prop := (∀ s ∈ l, s ∈ ns) ∧ RisT l
def GPm (l : List ByteArray) : Prop := (l.length ≤ 20 ∧ ∀ p ∈ l, goodName p = true) ∧ RisT l
def GRo (r : RoleT) : Prop := goodName r.f0 = true ∧ GPm r.f2
def GAp (ns : List ByteArray) (p : ApartT) : Prop := AllR ns p.f0 ∧ 1 ≤ p.f1 ∧ p.f1 < p.f0.length
def nms (rs : List RoleT) : List ByteArray := rs.map (·.f0)
/-- b stands under a. -/
def Edg (rs : List RoleT) (a b : ByteArray) : Prop := ∃ r ∈ rs, r.f0 = a ∧ b ∈ r.f1
/-- b comes under a, by way of others or not. -/
def Rch (rs : List RoleT) (a b : ByteArray) : Prop := ∃ n, 1 ≤ n ∧ Walk (Edg rs) n a b
/-- The roles, but for going under. -/
def GIn (rs : List RoleT) : Prop := (rs.length ≤ 30 ∧ ∀ r ∈ rs, GRo r) ∧ RisT (nms rs)
def GUn (rs : List RoleT) : Prop := ∀ r ∈ rs, AllR (nms rs) r.f1
def GEnd (rs : List RoleT) : Prop := ∀ r ∈ rs, ¬ Rch rs r.f0 r.f0
def GPa (rs : List RoleT) (ps : List ApartT) : Prop := ps.length ≤ 10 ∧ ∀ p ∈ ps, GAp (nms rs) p
/-- The set is good. -/
def GRs (x : RoleSetT) : Prop := GIn x.f0 ∧ GUn x.f0 ∧ GEnd x.f0 ∧ GPa x.f0 x.f1 ∧ AllR (nms x.f0) x.f2

theorem rch_dist {rs : List RoleT} {a b : ByteArray} : Rch rs a b ↔ ∃ n, Dist (Edg rs) a b n :=
  ⟨fun ⟨n, h1, h2⟩ => by obtain ⟨m, _, h⟩ := h2.dist h1; exact ⟨m, h⟩, fun ⟨n, h⟩ => ⟨n, h.1, h.2.1⟩⟩
theorem Rch.step {rs : List RoleT} {a b c : ByteArray} (h : Rch rs a b) (k : Edg rs b c) : Rch rs a c := by
  obtain ⟨n, h1, h2⟩ := h
  exact ⟨n + 1, by omega, b, h2, k⟩
theorem Rch.one {rs : List RoleT} {a b : ByteArray} (h : Edg rs a b) : Rch rs a b := ⟨1, Nat.le_refl _, a, rfl, h⟩
theorem edg_in {rs : List RoleT} (hu : GUn rs) {a b : ByteArray} (h : Edg rs a b) : a ∈ nms rs ∧ b ∈ nms rs := by
  obtain ⟨r, hr, rfl, hb⟩ := h
  exact ⟨List.mem_map.2 ⟨r, hr, rfl⟩, (hu r hr).1 b hb⟩
theorem rch_in {rs : List RoleT} (hu : GUn rs) {a b : ByteArray} (h : Rch rs a b) : b ∈ nms rs := by
  obtain ⟨n, h1, h2⟩ := h
  obtain ⟨m, rfl⟩ : ∃ m, n = m + 1 := ⟨n - 1, by omega⟩
  obtain ⟨c, _, he⟩ := h2
  exact (edg_in hu he).2
/-- The roles by their names: the first one of each name. -/
def fstR (rs : List RoleT) (s : ByteArray) : Option RoleT := rs.find? fun c => decide (c.f0 = s)
/-- What stands under a name. -/
def undR (rs : List RoleT) (s : ByteArray) : List ByteArray := ((fstR rs s).map (·.f1)).getD []
theorem nodup_one {rs : List RoleT} (h : (nms rs).Nodup) : ∀ {r r' : RoleT}, r ∈ rs → r' ∈ rs → r.f0 = r'.f0 → r = r' := by
  induction rs with
  | nil => intro r r' h1; cases h1
  | cons x rs ih =>
    intro r r' h1 h2 e
    have hn := List.nodup_cons.1 h
    rcases List.mem_cons.1 h1 with e1 | e1 <;> rcases List.mem_cons.1 h2 with e2 | e2
    · rw [e1, e2]
    · exact absurd (List.mem_map.2 ⟨r', e2, by rw [← e, e1]⟩) hn.1
    · exact absurd (List.mem_map.2 ⟨r, e1, by rw [e, e2]⟩) hn.1
    · exact ih hn.2 e1 e2 e
theorem und_edg {rs : List RoleT} (h : (nms rs).Nodup) (a b : ByteArray) : b ∈ undR rs a ↔ Edg rs a b := by
  unfold undR
  cases hf : fstR rs a with
  | none =>
    refine ⟨fun hb => (by simp at hb), fun ⟨r, hr, e, _⟩ => ?_⟩
    have := (List.find?_eq_none.1 hf) r hr
    simp [e] at this
  | some r =>
    have hr := List.mem_of_find?_eq_some hf
    have he : r.f0 = a := by have := List.find?_some hf; simpa using this
    refine ⟨fun hb => ⟨r, hr, he, by simpa using hb⟩, fun ⟨r', hr', e, hb⟩ => ?_⟩
    have : r' = r := nodup_one h hr' hr (by rw [e, he])
    subst this
    simpa using hb
theorem und_self {rs : List RoleT} (h : (nms rs).Nodup) {r : RoleT} (hr : r ∈ rs) : undR rs r.f0 = r.f1 := by
  unfold undR
  cases hf : fstR rs r.f0 with
  | none =>
    have := (List.find?_eq_none.1 hf) r hr
    simp at this
  | some r' =>
    have hr' := List.mem_of_find?_eq_some hf
    have he : r'.f0 = r.f0 := by have := List.find?_some hf; simpa using this
    rw [nodup_one h hr' hr he]; rfl
/-- What comes of names by going under by P, none or more times. -/
inductive UnF (P : ByteArray → List ByteArray) (ns : List ByteArray) : ByteArray → Prop
  | base {x : ByteArray} : x ∈ ns → UnF P ns x
  | next {x y : ByteArray} : UnF P ns x → y ∈ P x → UnF P ns y
theorem unf_rch {rs : List RoleT} (h : (nms rs).Nodup) (a x : ByteArray) : UnF (undR rs) (undR rs a) x ↔ Rch rs a x := by
  constructor
  · intro hx
    induction hx with
    | base hb => exact Rch.one ((und_edg h a _).1 hb)
    | next _ hy ih => exact ih.step ((und_edg h _ _).1 hy)
  · rintro ⟨n, h1, h2⟩
    obtain ⟨m, rfl⟩ : ∃ m, n = m + 1 := ⟨n - 1, by omega⟩
    clear h1
    induction m generalizing x with
    | zero =>
      obtain ⟨c, hc, he⟩ := h2
      cases hc
      exact .base ((und_edg h a x).2 he)
    | succ m ih =>
      obtain ⟨c, hc, he⟩ := h2
      exact .next (ih c hc) ((und_edg h c x).2 he)
theorem unf_self {rs : List RoleT} (h : (nms rs).Nodup) (a x : ByteArray) : UnF (undR rs) [a] x ↔ x = a ∨ Rch rs a x := by
  constructor
  · intro hx
    induction hx with
    | base hb => exact .inl (by simpa using hb)
    | next _ hy ih =>
      rcases ih with e | e
      · rw [e] at hy; exact .inr (Rch.one ((und_edg h a _).1 hy))
      · exact .inr (e.step ((und_edg h _ _).1 hy))
  · rintro (rfl | hr)
    · exact .base (by simp)
    · have := (unf_rch h a x).2 hr
      clear hr
      induction this with
      | base hb => exact .next (.base (by simp)) hb
      | next _ hy ih => exact .next ih hy
end Go.Proofs.Ytfabfgokammmhaa.V
