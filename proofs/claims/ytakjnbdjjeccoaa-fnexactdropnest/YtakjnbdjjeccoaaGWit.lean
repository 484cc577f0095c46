/- spec.l5With. -/
import Derived.Test.YtakjnbdjjeccoaaGChg
import Derived.Test.YtakjnbdjjeccoaaGRcS
namespace Go.Proofs.Ytakjnbdjjeccoaa
open Go.RowKit

theorem ris_at {l : List NestT} (hG : GoodL l) {i j : Nat} (hj : j < l.length) (hij : i < j) : cfN (l[i].f0, l[i].f1) (l[j].f0, l[j].f1) < 0 := by
  have hr : ∀ d (hd : i + d + 1 < l.length), cfN (l[i].f0, l[i].f1) ((l[i + d + 1]'hd).f0, (l[i + d + 1]'hd).f1) < 0 := by
    intro d
    induction d with
    | zero => intro hd; exact hG.2.2 (i + 0 + 1) hd (by omega) hd
    | succ d ih => intro hd; exact cfN_tr _ _ _ (ih (by omega)) (hG.2.2 (i + (d + 1) + 1) hd (by omega) hd)
  have h2 := hr (j - i - 1) (by omega)
  have : l[i + (j - i - 1) + 1]'(by omega) = l[j] := by congr 1; omega
  rw [this] at h2; exact h2
theorem cfN_zero {x y : Bs × Bs} (h : cfN x y = 0) : x = y := by
  rcases cfN_tri x y with k | k | k
  · omega
  · exact k
  · have e : ¬ cfN x y < 0 := by omega
    exact absurd (cfN_tri x y) (by
      rintro (a | a | a)
      · exact e a
      · subst a; exact cfN_irr _ k
      · exact (by
          unfold cfN cmpNe orI at h
          split at h
          · next h0 =>
            have e1 := cmpB_zero h0
            have e2 := cmpB_zero h
            have : x = y := Prod.ext e1 e2
            subst this; exact cfN_irr _ k
          · next h0 => exact h0 h))
theorem cfN_self (x : Bs × Bs) : cfN x x = 0 := by
  unfold cfN cmpNe orI cmpB
  rw [cmpT_self, cmpT_self]; rfl
theorem cfN_pos {x y : Bs × Bs} (h : 0 < cfN x y) : cfN y x < 0 := by
  rcases cfN_tri x y with k | k | k
  · omega
  · subst k; rw [cfN_self] at h; omega
  · exact k
/-- l5With after the first k nests. -/
structure WI (l : List NestT) (n : Bs × Bs) (add : Bool) (k : Nat) (put : Bool) (O : List NestT) : Prop where
  ris : O.Pairwise (fun a b => cfN (a.f0, a.f1) (b.f0, b.f1) < 0)
  mem : ∀ x : NestT, x ∈ O ↔ ((∃ i, ∃ h : i < l.length, i < k ∧ l[i] = x) ∧ (x.f0, x.f1) ≠ n) ∨ ((add = true ∧ put = true) ∧ (x.f0, x.f1) = n)
  nop : put = false → add = true ∧ ∀ i (h : i < l.length), i < k → cfN (l[i].f0, l[i].f1) n < 0
  pt : add = true → put = true → ∃ i, ∃ h : i < l.length, i ≤ k ∧ ¬ cfN (l[i].f0, l[i].f1) n < 0
  len : O.length ≤ k + 1
theorem WI.start (l : List NestT) (n : Bs × Bs) (add : Bool) : WI l n add 0 (!add) [] := by
  refine ⟨List.Pairwise.nil, fun x => ?_, fun h => ?_, fun h1 h2 => ?_, by simp⟩
  · constructor
    · intro h; simp at h
    · rintro (⟨⟨i, h, h1, _⟩, _⟩ | ⟨⟨h1, h2⟩, _⟩)
      · omega
      · rw [h1] at h2; cases h2
  · cases add
    · cases h
    · exact ⟨rfl, fun i h h1 => absurd h1 (Nat.not_lt_zero _)⟩
  · rw [h1] at h2; cases h2
theorem WI.put {l : List NestT} {n : Bs × Bs} {add : Bool} {k : Nat} {O : List NestT} (h : WI l n add k false O) (hk : k < l.length) (hc : ¬ cfN (l[k].f0, l[k].f1) n < 0) (hl : O.length ≤ k) : WI l n add k true (O ++ [⟨n.1, n.2⟩]) := by
  obtain ⟨ha, hn⟩ := h.nop rfl
  refine ⟨List.pairwise_append.2 ⟨h.ris, by simp, fun a ha' b hb => ?_⟩, fun x => ?_, (fun e => by cases e), fun _ _ => ⟨k, hk, Nat.le_refl _, hc⟩, by simp; omega⟩
  · simp at hb; subst hb
    rcases (h.mem a).1 ha' with ⟨⟨i, hi, h1, rfl⟩, _⟩ | ⟨⟨_, h1⟩, _⟩
    · exact hn i hi h1
    · cases h1
  · rw [List.mem_append, h.mem x, List.mem_singleton]
    constructor
    · rintro ((q | ⟨⟨_, q⟩, _⟩) | rfl)
      · exact .inl q
      · cases q
      · exact .inr ⟨⟨ha, rfl⟩, rfl⟩
    · rintro (q | ⟨_, q⟩)
      · exact .inl (.inl q)
      · exact .inr (by cases x; simp at q; rw [← q])
theorem WI.take {l : List NestT} (hG : GoodL l) {n : Bs × Bs} {add : Bool} {k : Nat} {put : Bool} {O : List NestT} (h : WI l n add k put O) (hk : k < l.length) (hc : ¬ cfN (l[k].f0, l[k].f1) n = 0) (hp : put = false → cfN (l[k].f0, l[k].f1) n < 0) : WI l n add (k + 1) put (O ++ [l[k]]) := by
  have hne : (l[k].f0, l[k].f1) ≠ n := fun e => hc (by rw [e]; exact cfN_self n)
  refine ⟨List.pairwise_append.2 ⟨h.ris, by simp, fun a ha' b hb => ?_⟩, fun x => ?_, fun e => ⟨(h.nop e).1, fun i hi h1 => ?_⟩, (fun h1 h2 => by obtain ⟨i, hi, a, b⟩ := h.pt h1 h2; exact ⟨i, hi, by omega, b⟩), by have := h.len; simp; omega⟩
  · simp at hb; subst hb
    rcases (h.mem a).1 ha' with ⟨⟨i, hi, h1, rfl⟩, _⟩ | ⟨⟨h1, h2⟩, h3⟩
    · exact ris_at hG hk h1
    · obtain ⟨i, hi, hik, hni⟩ := h.pt h1 h2
      rw [h3]
      by_cases e : i = k
      · subst e
        refine cfN_pos ?_
        omega
      · have h4 := ris_at hG hk (show i < k by omega)
        rcases cfN_tri n (l[i].f0, l[i].f1) with q | q | q
        · exact cfN_tr _ _ _ q h4
        · rw [q]; exact h4
        · exact absurd q hni
  · rw [List.mem_append, h.mem x, List.mem_singleton]
    constructor
    · rintro ((⟨⟨i, hi, h1, h2⟩, q⟩ | q) | rfl)
      · exact .inl ⟨⟨i, hi, by omega, h2⟩, q⟩
      · exact .inr q
      · exact .inl ⟨⟨k, hk, by omega, rfl⟩, hne⟩
    · rintro (⟨⟨i, hi, h1, rfl⟩, q⟩ | q)
      · by_cases e : i = k
        · subst e; exact .inr rfl
        · exact .inl (.inl ⟨⟨i, hi, by omega, rfl⟩, q⟩)
      · exact .inl (.inr q)
  · by_cases e2 : i = k
    · subst e2; exact hp e
    · exact (h.nop e).2 i hi (by omega)
theorem WI.skip {l : List NestT} {n : Bs × Bs} {add : Bool} {k : Nat} {O : List NestT} (h : WI l n add k true O) (hk : k < l.length) (hc : cfN (l[k].f0, l[k].f1) n = 0) : WI l n add (k + 1) true O := by
  have he := cfN_zero hc
  refine ⟨h.ris, fun x => ?_, (fun e => by cases e), (fun h1 h2 => by obtain ⟨i, hi, a, b⟩ := h.pt h1 h2; exact ⟨i, hi, by omega, b⟩), by have := h.len; omega⟩
  rw [h.mem x]
  constructor
  · rintro (⟨⟨i, hi, h1, h2⟩, q⟩ | q)
    · exact .inl ⟨⟨i, hi, by omega, h2⟩, q⟩
    · exact .inr q
  · rintro (⟨⟨i, hi, h1, rfl⟩, q⟩ | q)
    · by_cases e : i = k
      · subst e; exact absurd he q
      · exact .inl ⟨⟨i, hi, by omega, rfl⟩, q⟩
    · exact .inr q
/-- The whole of it. -/
structure WT (l : List NestT) (n : Bs × Bs) (add : Bool) (r : List NestT) : Prop where
  ris : r.Pairwise (fun a b => cfN (a.f0, a.f1) (b.f0, b.f1) < 0)
  mem : ∀ x : NestT, x ∈ r ↔ (x ∈ l ∧ (x.f0, x.f1) ≠ n) ∨ (add = true ∧ (x.f0, x.f1) = n)
  len : r.length ≤ l.length + 1
theorem mem_idx {l : List NestT} {x : NestT} : (∃ i, ∃ h : i < l.length, i < l.length ∧ l[i] = x) ↔ x ∈ l := by
  constructor
  · rintro ⟨i, h, _, rfl⟩; exact List.getElem_mem h
  · intro h
    obtain ⟨i, hi, rfl⟩ := List.getElem_of_mem h
    exact ⟨i, hi, hi, rfl⟩
theorem WI.end_ {l : List NestT} {n : Bs × Bs} {add : Bool} {O : List NestT} (h : WI l n add l.length true O) : WT l n add O :=
  ⟨h.ris, fun x => by rw [h.mem x, mem_idx]; simp, h.len⟩
theorem WI.end2 {l : List NestT} {n : Bs × Bs} {add : Bool} {O : List NestT} (h : WI l n add l.length false O) (hl : O.length ≤ l.length) : WT l n add (O ++ [⟨n.1, n.2⟩]) := by
  obtain ⟨ha, hn⟩ := h.nop rfl
  refine ⟨List.pairwise_append.2 ⟨h.ris, by simp, fun a ha' b hb => ?_⟩, fun x => ?_, by simp; omega⟩
  · simp at hb; subst hb
    rcases (h.mem a).1 ha' with ⟨⟨i, hi, h1, rfl⟩, _⟩ | ⟨⟨_, h1⟩, _⟩
    · exact hn i hi h1
    · cases h1
  · rw [List.mem_append, h.mem x, mem_idx, List.mem_singleton]
    constructor
    · rintro ((q | ⟨⟨_, q⟩, _⟩) | rfl)
      · exact .inl q
      · cases q
      · exact .inr ⟨ha, rfl⟩
    · rintro (q | ⟨_, q⟩)
      · exact .inl (.inl q)
      · exact .inr (by cases x; simp at q; rw [← q])
end Go.Proofs.Ytakjnbdjjeccoaa
