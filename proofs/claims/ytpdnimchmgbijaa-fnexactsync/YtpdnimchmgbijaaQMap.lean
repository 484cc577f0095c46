/- Chapter 4's maps: the vector (map[int]int) and the changes (map[impl.Stamp]impl.DirChange). -/
import Derived.Test.YtpdnimchmgbijaaQChT
import Derived.Maps.OwnOps
import Derived.Maps.OwnSet
import Derived.Maps.RangeWalk
import Derived.DeepKeys4
namespace Go.Proofs.Ytpdnimchmgbijaa
open Go.RowKit Go.Maps

theorem mLaid : laidOutB Try.prog = true := by kernel_rfl
theorem mRow : (43 : TypeId) < Try.prog.types.size := of_decide_eq_true (by kernel_rfl)
theorem mWide : (match Try.prog.underlying 43 with | some (.array _ _) | some (.struct _) => true | _ => false) = true := by rw [Try.underlying43]
set_option maxRecDepth 100000 in
theorem lawS : Keyed Try.prog 43 := Keyed.of_law (deep_law_laid mLaid (m := 2) (by omega) mRow (by kernel_rfl) mWide)
theorem lawI : Keyed Try.prog 3 := int_keyed Try.underlying3

theorem pos_succ {n k : Nat} (h : k < n) : ∃ m, n = m + 1 := ⟨n - 1, by omega⟩
def okI (a : Int) : Prop := (Lit.int .i64 a).wf = true
def stV (t o : Int) : Value := .agg #[.int .i64 t, .int .i64 o]

theorem key_stamp (t o : Int) (ht : okI t) (ho : okI o) : ∃ kl, keyOf Try.prog 43 (stV t o) = some kl := by
  have hk : Try.prog.keyType 43 = true := by kernel_rfl
  have hc : Try.prog.cellsOf 43 = 2 := by kernel_rfl
  have h3 : Try.prog.cellsOf 3 = 1 := by kernel_rfl
  have hf : (stV t o).formed Try.prog 43 = true := by simp [stV, Value.formed, Try.underlying43, hc]
  obtain ⟨m, hm⟩ := pos_succ mRow
  unfold okI at ht ho
  unfold keyOf
  rw [Try.underlying43]
  simp only [hk, hf, Bool.and_self, if_true]
  rw [hm]
  unfold Program.keyLits
  rw [Try.underlying43]
  have e3 : ∀ z : Int, (Lit.int .i64 z).wf = true → Try.prog.keyLits (m + 1) 3 [.int .i64 z] = some [.int .i64 z] := by
    intro z hz
    unfold Program.keyLits
    rw [Try.underlying3]
    simp [hz]
  simp [stV, Value.cells, hc, h3, e3 t ht, e3 o ho]

/-! ### the changes' map -/
def dcV (c : DcT) : Value := .agg #[.int .i64 c.t, .int .i64 c.o, .int .i64 c.k, .int .i64 c.u, .int .i64 c.p, .string c.pa, .string c.pt, .string c.a, .string c.x]
open Classical in
/-- How an element of the changes' map reads: it is a change. -/
noncomputable def dcElem (v : Value) : Option (DataW Unit × List MemPlace) := if ∃ c : DcT, v = dcV c then some (.agg [], []) else none
theorem dcElem_mk (c : DcT) : dcElem (dcV c) = some (.agg [], []) := by unfold dcElem; rw [if_pos ⟨c, rfl⟩]
theorem dcElem_inv {v : Value} {z : DataW Unit × List MemPlace} (h : dcElem v = some z) : ∃ c, v = dcV c := by
  unfold dcElem at h
  split at h
  · assumption
  · cases h
theorem zeroDc (w : World) : (zeroValue 46).run Try.prog w = .ok (dcV ⟨0, 0, 0, 0, 0, ⟨#[]⟩, ⟨#[]⟩, ⟨#[]⟩, ⟨#[]⟩⟩) w := by kernel_rfl
theorem zeroI (w : World) : (zeroValue 3).run Try.prog w = .ok (.int .i64 0) w := by kernel_rfl

/-- Block b is the changes' map: of no stamp in it is the Time above the vector's. -/
def ChM (w : World) (b n : Nat) (tv : Int → Int) : Prop :=
  ∃ D : DataW Unit, w.ownsMap Try.prog 43 dcElem b n D ∧ ∀ t o kl, keyOf Try.prog 43 (stV t o) = some kl → Maps.has D kl = true → t ≤ tv o
/-- Block b is the vector: Who's Time, 0 where it has none. -/
def VecM (w : World) (b n : Nat) (tv : Int → Int) : Prop :=
  ∃ D : DataW Unit, w.ownsMap Try.prog 3 (plainElem Try.prog 3) b n D ∧ (∀ a, okI a → D.atKey (.int .i64 a) (.lit (.int .i64 0)) = .lit (.int .i64 (tv a))) ∧ ∀ a, okI a → Maps.has D (.int .i64 a) = true → 0 < tv a
def upd (tv : Int → Int) (o t : Int) : Int → Int := fun a => if a = o then max (tv o) t else tv a
theorem upd_same (tv : Int → Int) (o t : Int) : upd tv o t o = max (tv o) t := by simp [upd]
theorem upd_other (tv : Int → Int) {o t a : Int} (h : ¬ a = o) : upd tv o t a = tv a := by simp [upd, h]
theorem upd_le (tv : Int → Int) (o t a : Int) : tv a ≤ upd tv o t a := by
  by_cases h : a = o
  · subst h; rw [upd_same]; omega
  · rw [upd_other tv h]; omega

theorem ChM.kept {w w' : World} {b n : Nat} {tv : Int → Int} {row : Option Nat} (h : ChM w b n tv) (hg : w.grownBy w' row) (hne : some b ≠ row) : ChM w' b n tv := by
  obtain ⟨D, ho, hD⟩ := h; exact ⟨D, ho.kept hg hne, hD⟩
theorem VecM.kept {w w' : World} {b n : Nat} {tv : Int → Int} {row : Option Nat} (h : VecM w b n tv) (hg : w.grownBy w' row) (hne : some b ≠ row) : VecM w' b n tv := by
  obtain ⟨D, ho, hD⟩ := h; exact ⟨D, ho.kept hg hne, hD⟩
theorem ChM.mono {w : World} {b n : Nat} {tv tv' : Int → Int} (h : ChM w b n tv) (hle : ∀ a, tv a ≤ tv' a) : ChM w b n tv' := by
  obtain ⟨D, ho, hD⟩ := h; exact ⟨D, ho, fun t o kl hk hh => Int.le_trans (hD t o kl hk hh) (hle o)⟩
theorem ChM.more {w : World} {b n n' : Nat} {tv : Int → Int} (h : ChM w b n tv) (hn : n ≤ n') : ChM w b n' tv := by
  obtain ⟨D, ho, hD⟩ := h; exact ⟨D, ho.mono hn, hD⟩
theorem VecM.more {w : World} {b n n' : Nat} {tv : Int → Int} (h : VecM w b n tv) (hn : n ≤ n') : VecM w b n' tv := by
  obtain ⟨D, ho, hD⟩ := h; exact ⟨D, ho.mono hn, hD⟩
theorem ChM.lt {w : World} {b n : Nat} {tv : Int → Int} (h : ChM w b n tv) : b < w.heap.size := by obtain ⟨D, ho, _⟩ := h; exact ho.lt
theorem VecM.lt {w : World} {b n : Nat} {tv : Int → Int} (h : VecM w b n tv) : b < w.heap.size := by obtain ⟨D, ho, _⟩ := h; exact ho.lt
theorem ChM.made (w : World) (tv : Int → Int) : ChM (w.alloc (.map #[] 0)) w.heap.size 0 tv :=
  ⟨.map [], World.ownsMap_made _ _ _ _, fun _ _ _ _ h => by simp [Maps.has] at h⟩
theorem VecM.made (w : World) : VecM (w.alloc (.map #[] 0)) w.heap.size 0 (fun _ => 0) :=
  ⟨.map [], World.ownsMap_made _ _ _ _, fun _ _ => by simp [DataW.atKey], fun _ _ h => by simp [Maps.has] at h⟩

section
variable (w : World) {ops : Array Oper} {rest : List Oper} {o : Oper} {a : Act} {Q : Exit → Act → World → Prop}

theorem wpList_look_ch (hg : o.guard = none) (m x : Operand) (hop : o.op = Op.lookup 50 m x true) (b n : Nat) (tv : Int → Int) (hm : a.eval m = .map (some b)) (hch : ChM w b n tv)
    (t s : Int) (hx : a.eval x = .agg #[.int .i64 t, .int .i64 s]) (ht : okI t) (hs : okI s)
    (hK : ∀ (c : DcT) (r : Bool), (r = true → t ≤ tv s) → wpList Try.prog ops Q rest (a.put o.dst (.tuple #[.agg #[.int .i64 c.t, .int .i64 c.o, .int .i64 c.k, .int .i64 c.u, .int .i64 c.p, .string c.pa, .string c.pt, .string c.a, .string c.x], .bool r])) w) :
    wpList Try.prog ops Q (o :: rest) a w := by
  obtain ⟨D, hown, hD⟩ := hch
  obtain ⟨kl, hkl⟩ := key_stamp t s ht hs
  refine wpList_lookup_own_ok w hg m x _ hop 43 46 lawS Try.underlying50 dcElem (zeroDc w) (.agg []) [] (dcElem_mk _) b n D hm hown (stV t s) kl hx hkl ?_
  intro v ps hv
  obtain ⟨c, rfl⟩ := dcElem_inv hv
  exact hK c _ (hD t s kl hkl)

theorem wpList_put_ch (hg : o.guard = none) (m x v : Operand) (hop : o.op = Op.mapUpdate 50 m x v) (b n : Nat) (tv : Int → Int) (hm : a.eval m = .map (some b)) (hch : ChM w b n tv) (hn : n < maxLen)
    (t s : Int) (c : DcT) (hx : a.eval x = .agg #[.int .i64 t, .int .i64 s]) (hv : a.eval v = .agg #[.int .i64 c.t, .int .i64 c.o, .int .i64 c.k, .int .i64 c.u, .int .i64 c.p, .string c.pa, .string c.pt, .string c.a, .string c.x]) (ht : okI t) (hs : okI s)
    (hK : ∀ w', ChM w' b (n + 1) (upd tv s t) → w.grownBy w' (some b) → wpList Try.prog ops Q rest (a.put o.dst undef) w') :
    wpList Try.prog ops Q (o :: rest) a w := by
  obtain ⟨D, hown, hD⟩ := hch
  obtain ⟨kl, hkl⟩ := key_stamp t s ht hs
  refine wpList_mapUpdate_own w hg m x v _ hop 43 46 lawS Try.underlying50 dcElem b n D hm hown hn (stV t s) (dcV c) kl hx hv hkl (.agg []) [] (dcElem_mk c) ?_
  intro w' h1 h2
  refine hK w' ⟨_, h1, fun t' o' kl' hk' hh => ?_⟩ h2
  by_cases e : kl' = kl
  · subst e
    have := lawS.inj hk' hkl
    simp [stV] at this
    obtain ⟨rfl, rfl⟩ := this
    rw [upd_same]; omega
  · rw [Maps.has_put_other e] at hh
    exact Int.le_trans (hD t' o' kl' hk' hh) (upd_le tv s t o')

theorem wpList_look_vec (hg : o.guard = none) (m x : Operand) (hop : o.op = Op.lookup 49 m x false) (b n : Nat) (tv : Int → Int) (hm : a.eval m = .map (some b)) (hv : VecM w b n tv)
    (s : Int) (hx : a.eval x = .int .i64 s) (hs : okI s)
    (hK : okI (tv s) → wpList Try.prog ops Q rest (a.put o.dst (.int .i64 (tv s))) w) :
    wpList Try.prog ops Q (o :: rest) a w := by
  obtain ⟨D, hown, hD, _⟩ := hv
  refine wpList_lookup_own_int w hg m x _ hop 3 3 .i64 lawI Try.underlying49 Try.underlying3 (zeroI w) b n D hm hown (.int .i64 s) (.int .i64 s) hx (keyOf_int_mk Try.underlying3 hs) ?_
  intro c hat hwc
  have h := hD s hs
  rw [hat] at h
  simp at h
  subst h
  exact hK hwc

theorem wpList_put_vec (hg : o.guard = none) (m x v : Operand) (hop : o.op = Op.mapUpdate 49 m x v) (b n : Nat) (tv : Int → Int) (hm : a.eval m = .map (some b)) (hvec : VecM w b n tv) (hn : n < maxLen)
    (s t z : Int) (hx : a.eval x = .int .i64 s) (hv : a.eval v = .int .i64 z) (hz : z = max (tv s) t) (hs : okI s) (hzo : okI z) (ht0 : 0 < t)
    (hK : ∀ w', VecM w' b (n + 1) (upd tv s t) → w.grownBy w' (some b) → wpList Try.prog ops Q rest (a.put o.dst undef) w') :
    wpList Try.prog ops Q (o :: rest) a w := by
  obtain ⟨D, hown, hD, hP⟩ := hvec
  refine wpList_mapUpdate_own w hg m x v _ hop 3 3 lawI Try.underlying49 _ b n D hm hown hn (.int .i64 s) (.int .i64 z) (.int .i64 s) hx hv (keyOf_int_mk Try.underlying3 hs) (.lit (.int .i64 z)) [] (plainElem_int Try.underlying3 hzo) ?_
  intro w' h1 h2
  refine hK w' ⟨_, h1, fun y hy => ?_, fun y hy hh => ?_⟩ h2
  · by_cases e : y = s
    · subst e
      rw [Maps.atKey_put_same hown.isMap (by trivial), upd_same, hz]
    · rw [Maps.atKey_put_other (by simpa using e), upd_other tv e]
      exact hD y hy
  · by_cases e : y = s
    · subst e
      rw [upd_same]; omega
    · rw [Maps.has_put_other (by simpa using e)] at hh
      rw [upd_other tv e]
      exact hP y hy hh
end
end Go.Proofs.Ytpdnimchmgbijaa
