/- impl.AddNest, impl.DropNest. -/
import Derived.Test.YtakjnbdjjeccoaaGTol
import Derived.Test.YtakjnbdjjeccoaaGGs
namespace Go.Proofs.Ytakjnbdjjeccoaa
open Go.RowKit Go.Maps

/-- The list's nests and n; those without n. -/
def AddS (l : List NestT) (n : Bs × Bs) : Bs × Bs → Prop := fun p => SetL l p ∨ p = n
def DropS (l : List NestT) (n : Bs × Bs) : Bs × Bs → Prop := fun p => SetL l p ∧ p ≠ n
/-- What AddNest and DropNest tell. -/
def PChg (l : List NestT) (n : Bs × Bs) (T : Bs × Bs → Prop) (r1 : List NestT) (r2 : List ReachT) : Prop := ((GoodL l ∧ gNest n.1 n.2 = true) ∧ TN T r1 ∧ PRea r1 r2) ∨ (¬ (GoodL l ∧ gNest n.1 n.2 = true) ∧ r1 = [] ∧ r2 = [])
theorem PChg.uniq {l : List NestT} {n : Bs × Bs} {T : Bs × Bs → Prop} {r1 s1 : List NestT} {r2 s2 : List ReachT} (h : PChg l n T r1 r2) (k : PChg l n T s1 s2) : r1 = s1 ∧ r2 = s2 := by
  rcases h with ⟨h0, h1, h2⟩ | ⟨h0, h1, h2⟩ <;> rcases k with ⟨k0, k1, k2⟩ | ⟨k0, k1, k2⟩
  · obtain rfl := h1.uniq k1
    exact ⟨rfl, h2.uniq k2⟩
  · exact absurd h0 k0
  · exact absurd k0 h0
  · exact ⟨by rw [h1, k1], by rw [h2, k2]⟩
theorem PChg.len {l : List NestT} {n : Bs × Bs} {T : Bs × Bs → Prop} {r1 : List NestT} {r2 : List ReachT} (h : PChg l n T r1 r2) : r1.length ≤ 40000 ∧ r2.length ≤ 40000 := by
  rcases h with ⟨h0, h1, h2⟩ | ⟨h0, h1, h2⟩
  · exact ⟨by have := h1.len; omega, h2.len⟩
  · rw [h1, h2]; simp
theorem gNest_ok {g m : Bs} (h : gNest g m = true) : okKN (g, m) := by
  unfold gNest isGrp at h
  simp only [Bool.and_eq_true] at h
  have h1 := goodName_le h.1.1
  have h2 := goodName_le h.2
  exact ⟨show g.size ≤ maxLen by unfold maxLen; omega, show m.size ≤ maxLen by unfold maxLen; omega⟩
theorem setL_ok {l : List NestT} (hG : GoodL l) {p : Bs × Bs} (h : SetL l p) : okKN p := by
  obtain ⟨x, hx, rfl⟩ := h
  obtain ⟨i, hi, rfl⟩ := List.getElem_of_mem hx
  exact gNest_ok (hG.2.1 i hi hi)
theorem TN.ok {S : Bs × Bs → Prop} {r : List NestT} (h : TN S r) (hS : ∀ p, S p → okKN p) : ∀ q ∈ r, NestT.Ok q := fun q hq => by
  rcases h with ⟨h1, _⟩ | ⟨_, _, h1⟩
  · rw [h1] at hq; simp at hq
  · have := hS _ ((h1 q).1 hq)
    exact ⟨this.1, this.2⟩
theorem seM_del (S : Bs × Bs → Prop) (x : Bs × Bs) : (fun p => if p = x then none else seM S p) = seM (fun p => S p ∧ p ≠ x) := by
  funext p
  unfold seM
  by_cases h : p = x
  · rw [if_pos h, if_neg (fun q => q.2 h)]
  · rw [if_neg h]
    by_cases k : S p
    · rw [if_pos k, if_pos ⟨k, h⟩]
    · rw [if_neg k, if_neg (fun q => k q.1)]
/-- 'delete(m, x)'. -/
theorem wpList_del_km {P : Program} {k : TypeId} {α : Type} [DecidableEq α] {enc : α → Value} {ok : α → Prop} (w : World) {ops : Array Oper} {rest : List Oper} {o : Oper} {a : Act} {Q : Exit → Act → World → Prop} (K : KeyKind P k enc ok) (hg : o.guard = none) (m x : Operand) (t : TypeId) (hop : o.op = Op.call { callee := Callee.builtin Builtin.delete, args := #[m, x], argTypes := #[t, k] }) (e : TypeId) (ht : P.underlying t = some (.map k e)) (b n : Nat) (M : α → Option Value) (hm : a.eval m = .map (some b)) (hk : KM P k enc w b n M) (y : α) (hx : a.eval x = enc y) (hy : ok y)
    (hK : ∀ w', KM P k enc w' b n (fun z => if z = y then none else M z) → w.grownBy w' (some b) → wpList P ops Q rest (a.put o.dst (.tuple #[])) w') : wpList P ops Q (o :: rest) a w := by
  obtain ⟨D, hown, hD⟩ := hk
  obtain ⟨kl, hkl⟩ := K.key y hy
  refine wpList_delete_own w hg m x t k hop e K.law ht hvR b n D hm hown (enc y) kl hx hkl ?_
  intro w' h1 h2
  refine hK w' ⟨_, h1, fun y' kl' hk' => ?_⟩ h2.grown
  by_cases e : y' = y
  · subst e
    obtain rfl : kl' = kl := by rw [hkl] at hk'; exact (Option.some.inj hk').symm
    simp only [if_true]
    exact ⟨Maps.has_del_same, fun c hc => by cases hc⟩
  · have hne : kl' ≠ kl := fun e2 => e (K.inj _ _ (K.law.inj hk' (by rw [e2]; exact hkl)))
    simp only [if_neg e]
    rw [Maps.has_del_other hne]
    refine ⟨(hD y' kl' hk').1, fun c' hc' z => ?_⟩
    rw [Maps.atKey_del_other hne]
    exact (hD y' kl' hk').2 c' hc' z
end Go.Proofs.Ytakjnbdjjeccoaa
