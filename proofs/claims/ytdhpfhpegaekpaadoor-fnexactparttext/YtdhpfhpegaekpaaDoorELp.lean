/- Documents: what a good one is; the tree by recursion and by a stack of places. -/
import Derived.Test.YtdhpfhpegaekpaaDoorELm
import Derived.Test.YtdhpfhpegaekpaaDoorKWa
import Derived.Test.YtdhpfhpegaekpaaDoorQName
namespace Go.Proofs.YtdhpfhpegaekpaaDoor.V
set_option linter.unusedSimpArgs false
set_option linter.unusedVariables false
open Go.RowKit

def GNm (s : ByteArray) : Prop := goodName s = true
def GTx (s : ByteArray) : Prop := (decide (s.size ≤ 200) && textL s) = true
def RisE (l : List ByteArray) : Prop := ∀ i (h : i + 1 < l.length), cmpT l[i].data.toList l[i + 1].data.toList < 0
structure RightE (x : ElemT) : Prop where
  nm : GNm x.f0
  n8 : x.f2.length ≤ 8
  nn : ∀ q ∈ x.f2, GNm q
  ri : RisE x.f2
  vl : x.f3.length = x.f2.length
  vv : ∀ q ∈ x.f3, GTx q
  tx : GTx x.f1
  tk : x.f1 = ⟨#[]⟩ ∨ x.f4 ≤ 0
structure EG (x : ElemT) : Prop where
  r : RightE x
  k : 0 ≤ x.f4 ∧ x.f4 ≤ 20
/-- From place k with the stack S of depths that wait to place k' with S'; D: the depths of what lies between. -/
inductive Steps (K : List Nat) : Nat → List Nat → Nat → List Nat → List Nat → Prop
  | nil (k : Nat) (S : List Nat) : Steps K k S k S []
  | cons {k d k' : Nat} {S S' D : List Nat} (h : k < K.length) : Steps K (k + 1) (List.replicate K[k] (d + 1) ++ S) k' S' D → Steps K k (d :: S) k' S' (d :: D)
theorem Steps.le {K : List Nat} {k k' : Nat} {S S' D : List Nat} (h : Steps K k S k' S' D) : k ≤ k' ∧ k' = k + D.length := by
  induction h with
  | nil => exact ⟨Nat.le_refl _, rfl⟩
  | cons _ _ ih => exact ⟨by omega, by have := ih.2; simp; omega⟩
theorem Steps.trans {K : List Nat} {k k1 k2 : Nat} {S S1 S2 D1 D2 : List Nat} (h : Steps K k S k1 S1 D1) : Steps K k1 S1 k2 S2 D2 → Steps K k S k2 S2 (D1 ++ D2) := by
  induction h with
  | nil => exact fun h2 => h2
  | cons hk _ ih => exact fun h2 => .cons hk (ih h2)
theorem Steps.snoc {K : List Nat} {k k1 d : Nat} {S S1 D1 : List Nat} (h : Steps K k S k1 (d :: S1) D1) (hk : k1 < K.length) : Steps K k S (k1 + 1) (List.replicate K[k1] (d + 1) ++ S1) (D1 ++ [d]) :=
  h.trans (.cons hk (.nil _ _))
theorem Steps.det {K : List Nat} {k k1 k2 : Nat} {S S1 S2 D1 : List Nat} (h : Steps K k S k1 S1 D1) : ∀ {D2 : List Nat}, Steps K k S k2 S2 D2 → k1 ≤ k2 → ∃ D3, Steps K k1 S1 k2 S2 D3 ∧ D2 = D1 ++ D3 := by
  induction h with
  | nil => exact fun h2 _ => ⟨_, h2, rfl⟩
  | cons hk h1 ih =>
    intro D2 h2 hl
    cases h2 with
    | nil => have := h1.le.1; omega
    | cons hk2 h3 =>
      obtain ⟨D3, a, b⟩ := ih h3 hl
      exact ⟨D3, a, by rw [b]; rfl⟩
theorem Steps.empty {K : List Nat} {k k' : Nat} {S' D : List Nat} (h : Steps K k [] k' S' D) : k' = k ∧ S' = [] := by
  cases h with
  | nil => exact ⟨rfl, rfl⟩
theorem Steps.same {K : List Nat} {k : Nat} {S S' D : List Nat} (h : Steps K k S k S' D) : S' = S ∧ D = [] := by
  cases h with
  | nil => exact ⟨rfl, rfl⟩
  | cons _ h2 => have := h2.le.1; omega
def ksOf (xs : List ElemT) : List Nat := xs.map fun x => x.f4.toNat
/-- A good document. -/
def GDoc (xs : List ElemT) : Prop := xs.length ≤ 60 ∧ (∀ x ∈ xs, EG x) ∧ ∃ D, Steps (ksOf xs) 0 [1] xs.length [] D ∧ ∀ d ∈ D, d ≤ 12

inductive DT where
  | node : ElemE → Nat → List DT → DT
def DT.n : DT → ElemE | .node x _ _ => x
def DT.at : DT → Nat | .node _ k _ => k
def DT.kids : DT → List DT | .node _ _ ks => ks
def takeKD (f : Nat → Option (DT × Nat)) : Nat → Nat → Option (List DT × Nat)
  | 0, k => some ([], k)
  | n + 1, k => (f k).bind fun p => (takeKD f n p.2).map fun q => (p.1 :: q.1, q.2)
def takeD (l : List ElemE) : Nat → Nat → Option (DT × Nat)
  | 0, _ => none
  | r + 1, k => if h : k < l.length then (if (l[k]).t.f4 < 0 ∨ 20 < (l[k]).t.f4 then none else (takeKD (takeD l r) (l[k]).t.f4.toNat (k + 1)).map fun q => (.node l[k] k q.1, q.2)) else none
def kidOk (l : List ElemE) (k k' : Nat) : Prop := ∀ j (h : j < l.length), k ≤ j → j < k' → 0 ≤ (l[j]).t.f4 ∧ (l[j]).t.f4 ≤ 20
theorem ks_get (l : List ElemE) (k : Nat) (h : k < l.length) : (ksOf (l.map (·.t)))[k]'(by unfold ksOf; simpa using h) = (l[k]).t.f4.toNat := by simp [ksOf]
theorem ks_len (l : List ElemE) : (ksOf (l.map (·.t))).length = l.length := by simp [ksOf]
theorem takeKD_steps {l : List ElemE} {r : Nat} (ih : ∀ k t k' d S, takeD l r k = some (t, k') → d + r = 13 → k' ≤ l.length ∧ k < k' ∧ kidOk l k k' ∧ ∃ D, Steps (ksOf (l.map (·.t))) k (d :: S) k' S D ∧ ∀ x ∈ D, x ≤ 12) :
    ∀ (n k : Nat) (ts : List DT) (k' d : Nat) (S : List Nat), takeKD (takeD l r) n k = some (ts, k') → d + r = 13 → k ≤ l.length → k' ≤ l.length ∧ k ≤ k' ∧ kidOk l k k' ∧ ts.length = n ∧ ∃ D, Steps (ksOf (l.map (·.t))) k (List.replicate n d ++ S) k' S D ∧ ∀ x ∈ D, x ≤ 12
  | 0, k, ts, k', d, S, h, hd, hk => by
    simp [takeKD] at h
    obtain ⟨rfl, rfl⟩ := h
    exact ⟨hk, Nat.le_refl _, fun j _ h1 h2 => by omega, rfl, [], by simpa using Steps.nil _ _, by simp⟩
  | n + 1, k, ts, k', d, S, h, hd, hk => by
    simp only [takeKD, Option.bind_eq_some_iff, Option.map_eq_some_iff, Prod.exists, Prod.mk.injEq] at h
    obtain ⟨t, k1, h1, us, k2, h2, rfl, rfl⟩ := h
    obtain ⟨a1, a2, a3, D1, a4, a5⟩ := ih k t k1 d (List.replicate n d ++ S) h1 hd
    obtain ⟨b1, b2, b3, b6, D2, b4, b5⟩ := takeKD_steps ih n k1 us k2 d S h2 hd a1
    refine ⟨b1, by omega, fun j hj h3 h4 => ?_, by simp [b6], D1 ++ D2, ?_, fun x hx => ?_⟩
    · by_cases e : j < k1
      · exact a3 j hj h3 e
      · exact b3 j hj (by omega) h4
    · rw [List.replicate_succ, List.cons_append]
      exact a4.trans b4
    · rcases List.mem_append.1 hx with e | e
      · exact a5 x e
      · exact b5 x e
theorem takeD_steps (l : List ElemE) : ∀ (r k : Nat) (t : DT) (k' d : Nat) (S : List Nat), takeD l r k = some (t, k') → d + r = 13 → k' ≤ l.length ∧ k < k' ∧ kidOk l k k' ∧ ∃ D, Steps (ksOf (l.map (·.t))) k (d :: S) k' S D ∧ ∀ x ∈ D, x ≤ 12
  | 0, k, t, k', d, S, h, hd => by simp [takeD] at h
  | r + 1, k, t, k', d, S, h, hd => by
    simp only [takeD] at h
    split at h
    · rename_i hk
      split at h
      · cases h
      · rename_i ho
        obtain ⟨⟨ks, q⟩, h1, h2⟩ := Option.map_eq_some_iff.1 h
        obtain ⟨rfl, rfl⟩ := by simpa using h2
        obtain ⟨b1, b2, b3, _, D2, b4, b5⟩ := takeKD_steps (takeD_steps l r) _ (k + 1) ks q (d + 1) S h1 (by omega) hk
        refine ⟨b1, by omega, fun j hj h3 h4 => ?_, d :: D2, ?_, fun x hx => ?_⟩
        · by_cases e : j = k
          · subst e; omega
          · exact b3 j hj (by omega) h4
        · refine .cons (by rw [ks_len]; exact hk) ?_
          rw [ks_get l k hk]
          exact b4
        · rcases List.mem_cons.1 hx with e | e
          · omega
          · exact b5 x e
    · cases h
theorem steps_takeK {l : List ElemE} {r m : Nat} (hok : kidOk l 0 l.length) (ih : ∀ k d S D, Steps (ksOf (l.map (·.t))) k (d :: S) m [] D → d + r = 13 → (∀ x ∈ D, x ≤ 12) → ∃ t k' D', takeD l r k = some (t, k') ∧ Steps (ksOf (l.map (·.t))) k' S m [] D' ∧ ∀ x ∈ D', x ≤ 12) :
    ∀ (n k d : Nat) (S D : List Nat), Steps (ksOf (l.map (·.t))) k (List.replicate n d ++ S) m [] D → d + r = 13 → (∀ x ∈ D, x ≤ 12) → ∃ ts k' D', takeKD (takeD l r) n k = some (ts, k') ∧ Steps (ksOf (l.map (·.t))) k' S m [] D' ∧ ∀ x ∈ D', x ≤ 12
  | 0, k, d, S, D, h, hd, hD => ⟨[], k, D, rfl, by simpa using h, hD⟩
  | n + 1, k, d, S, D, h, hd, hD => by
    rw [List.replicate_succ, List.cons_append] at h
    obtain ⟨t, k1, D1, a1, a2, a3⟩ := ih k d _ D h hd hD
    obtain ⟨ts, k2, D2, b1, b2, b3⟩ := steps_takeK hok ih n k1 d S D1 a2 hd a3
    refine ⟨t :: ts, k2, D2, ?_, b2, b3⟩
    simp only [takeKD, a1, Option.bind_some, b1, Option.map_some]
theorem steps_take (l : List ElemE) (m : Nat) (hok : kidOk l 0 l.length) : ∀ (r k d : Nat) (S D : List Nat), Steps (ksOf (l.map (·.t))) k (d :: S) m [] D → d + r = 13 → (∀ x ∈ D, x ≤ 12) → ∃ t k' D', takeD l r k = some (t, k') ∧ Steps (ksOf (l.map (·.t))) k' S m [] D' ∧ ∀ x ∈ D', x ≤ 12
  | 0, k, d, S, D, h, hd, hD => by
    cases h with
    | cons hk h2 => have := hD d (by simp); omega
  | r + 1, k, d, S, D, h, hd, hD => by
    cases h with
    | cons hk h2 =>
      have hk' : k < l.length := by rwa [ks_len] at hk
      rw [ks_get l k hk'] at h2
      obtain ⟨ts, k', D', a, b, c⟩ := steps_takeK hok (steps_take l m hok r) _ (k + 1) (d + 1) S _ h2 (by omega) (fun x hx => hD x (List.mem_cons_of_mem _ hx))
      refine ⟨.node l[k] k ts, k', D', ?_, b, c⟩
      have := hok k hk' (Nat.zero_le _) hk'
      simp only [takeD, dif_pos hk', if_neg (show ¬ ((l[k]).t.f4 < 0 ∨ 20 < (l[k]).t.f4) by omega), a, Option.map_some]
/-- The recursion takes the whole just where the document is good (each element being right, and not more than 60). -/
theorem gdoc_take {l : List ElemE} (h60 : l.length ≤ 60) (hr : ∀ x ∈ l, RightE x.t) : GDoc (l.map (·.t)) ↔ ∃ t, takeD l 12 0 = some (t, l.length) := by
  constructor
  · rintro ⟨_, h2, D, h3, h4⟩
    have hok : kidOk l 0 l.length := fun j hj _ _ => (h2 _ (List.mem_map.2 ⟨l[j], List.getElem_mem hj, rfl⟩)).k
    rw [List.length_map] at h3
    obtain ⟨t, k', D', a, b, _⟩ := steps_take l l.length hok 12 0 1 [] D h3 rfl h4
    exact ⟨t, by rw [a, ← b.empty.1]⟩
  · rintro ⟨t, h⟩
    obtain ⟨_, _, h3, D, h4, h5⟩ := takeD_steps l 12 0 t l.length 1 [] h rfl
    refine ⟨by simpa using h60, fun x hx => ?_, D, by rw [List.length_map]; exact h4, h5⟩
    obtain ⟨e, he, rfl⟩ := List.mem_map.1 hx
    obtain ⟨j, hj, rfl⟩ := List.mem_iff_getElem.1 he
    exact ⟨hr _ he, h3 j hj (Nat.zero_le _) hj⟩
/-- So many kids are taken, and there it goes on. -/
def KidsD (f : Nat → Option (DT × Nat)) (n k0 i : Nat) (pre : List DT) (k : Nat) : Prop := i ≤ n ∧ pre.length = i ∧ takeKD f n k0 = (takeKD f (n - i) k).map fun q => (pre ++ q.1, q.2)
theorem KidsD.start (f : Nat → Option (DT × Nat)) (n k : Nat) : KidsD f n k 0 [] k := ⟨Nat.zero_le _, rfl, by rw [Nat.sub_zero]; cases takeKD f n k <;> simp⟩
theorem KidsD.step {f : Nat → Option (DT × Nat)} {n k0 i : Nat} {pre : List DT} {k : Nat} (h : KidsD f n k0 i pre k) (hi : i < n) {t : DT} {k1 : Nat} (e : f k = some (t, k1)) : KidsD f n k0 (i + 1) (pre ++ [t]) k1 := by
  refine ⟨hi, by simp [h.2.1], ?_⟩
  have e1 : n - i = (n - (i + 1)) + 1 := by omega
  rw [h.2.2, e1, takeKD, e]
  simp only [Option.bind_some]
  cases takeKD f (n - (i + 1)) k1 <;> simp
theorem KidsD.no {f : Nat → Option (DT × Nat)} {n k0 i : Nat} {pre : List DT} {k : Nat} (h : KidsD f n k0 i pre k) (hi : i < n) (e : f k = none) : takeKD f n k0 = none := by
  have e1 : n - i = (n - (i + 1)) + 1 := by omega
  rw [h.2.2, e1, takeKD, e]; rfl
theorem KidsD.done {f : Nat → Option (DT × Nat)} {n k0 : Nat} {pre : List DT} {k : Nat} (h : KidsD f n k0 n pre k) : takeKD f n k0 = some (pre, k) := by
  rw [h.2.2, Nat.sub_self, takeKD]; simp
end Go.Proofs.YtdhpfhpegaekpaaDoor.V
