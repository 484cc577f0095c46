/- impl.GoodDirSchema. -/
import Derived.Test.YtobmdeoppbjjpaaHIf
namespace Go.Proofs.Ytobmdeoppbjjpaa.V
set_option linter.unusedSimpArgs false
set_option linter.unusedVariables false
open Go.RowKit Go.Maps

theorem cmpT_trans : ∀ {a b c : List UInt8}, cmpT a b < 0 → cmpT b c < 0 → cmpT a c < 0
  | [], [], _, h, _ => by simp [cmpT] at h
  | [], _ :: _, [], _, h => by simp [cmpT] at h
  | [], _ :: _, _ :: _, _, _ => by simp [cmpT]
  | _ :: _, [], _, h, _ => by simp [cmpT] at h
  | _ :: _, _ :: _, [], _, h => by simp [cmpT] at h
  | a :: x, b :: y, c :: z, h1, h2 => by
    unfold cmpT at h1 h2 ⊢
    have lt : ∀ {p q : UInt8}, cmpN p.toNat q.toNat < 0 → p.toNat < q.toNat := fun {p q} h => by
      unfold cmpN at h
      split at h
      · omega
      · split at h <;> omega
    have gt : ∀ {p q : UInt8}, p.toNat < q.toNat → cmpN p.toNat q.toNat < 0 := fun {p q} h => by
      unfold cmpN
      rw [if_pos (by omega)]
      omega
    split at h1
    · rename_i e1
      subst e1
      split at h2
      · rename_i e2
        subst e2
        rw [if_pos rfl]
        exact cmpT_trans h1 h2
      · rename_i e2
        rw [if_neg e2]
        exact h2
    · split at h2
      · rename_i e1 e2
        subst e2
        rw [if_neg e1]
        exact h1
      · have g1 := lt h1
        have g2 := lt h2
        rw [if_neg (fun e => by subst e; omega)]
        exact gt (by omega)
theorem cmp_nodup {l : List ByteArray} (h : RisS l) : l.Nodup := by
  have key : ∀ (d i : Nat) (hi : i + d + 1 < l.length), cmpT (l[i]'(by omega)).data.toList l[i + d + 1].data.toList < 0 := by
    intro d
    induction d with
    | zero => exact fun i hi => h i hi
    | succ d ih => exact fun i hi => cmpT_trans (ih i (by omega)) (h (i + d + 1) (by omega))
  rw [List.Nodup, List.pairwise_iff_getElem]
  intro i j hi hj hij e
  obtain ⟨d, rfl⟩ : ∃ d, j = i + d + 1 := ⟨j - i - 1, by omega⟩
  have := key d i hj
  rw [e, cmpT_self] at this
  omega
theorem ris_map {E : Type} (nm : E → ByteArray) {l : List E} : RisS (l.map nm) ↔ ∀ i (h : i + 1 < l.length), cmpT (nm l[i]).data.toList (nm l[i + 1]).data.toList < 0 := by
  unfold RisS
  simp
theorem find_of_nodup {E : Type} {nm : E → ByteArray} : ∀ {l : List E}, (l.map nm).Nodup → ∀ {e : E}, e ∈ l → l.find? (fun c => decide (nm c = nm e)) = some e
  | [], _, _, h => by cases h
  | x :: l, hn, e, h => by
    simp only [List.map_cons, List.nodup_cons] at hn
    rw [List.find?_cons]
    by_cases hx : nm x = nm e
    · simp only [hx, decide_true]
      rcases List.mem_cons.1 h with h | h
      · rw [h]
      · exact absurd (by rw [hx]; exact List.mem_map_of_mem h) hn.1
    · simp only [hx, decide_false]
      rcases List.mem_cons.1 h with h | h
      · exact absurd (by rw [h]) hx
      · exact find_of_nodup hn.2 h
/-- Where the names are all unlike the map finds what the list does. -/
theorem told_fst {la : List ClassE} {M : ByteArray → Option Value} {C : ByteArray → Option ClassE} (hC : KC (·.t.f0) clV la M C) (hn : (la.map (·.t.f0)).Nodup) (s : ByteArray) : (C s).map (·.t) = fstC (la.map (·.t)) s := by
  obtain ⟨_, h2, h3⟩ := hC s
  unfold fstC
  rw [List.find?_map]
  cases hc : C s with
  | none =>
    have : la.find? ((fun c : ClassT => decide (c.f0 = s)) ∘ (fun x : ClassE => x.t)) = none := List.find?_eq_none.2 fun e he hd => by
      have := h2.2 ⟨e, he, by simpa using hd⟩
      rw [hc] at this; cases this
    rw [this]
  | some e =>
    obtain ⟨he, hs⟩ := h3 e hc
    have := find_of_nodup (nm := fun x : ClassE => x.t.f0) hn he
    have h4 : la.find? ((fun c : ClassT => decide (c.f0 = s)) ∘ (fun x : ClassE => x.t)) = some e := by
      rw [← this]
      have hs' : e.t.f0 = s := hs
      rw [hs']; rfl
    rw [h4]
/-- The program's conditions are those of the schema. -/
theorem gds_iff {lt : List AttrTypeE} {la : List ClassE} {Mt Mc : ByteArray → Option Value} {Ct : ByteArray → Option AttrTypeE} {Cc : ByteArray → Option ClassE} {N : Nat} (h0 : lt.length ≤ 40) (h1 : la.length ≤ 20) (ht : KC (·.t.f0) ayV lt Mt Ct) (hc : KC (·.t.f0) clV la Mc Cc) (hN : (la.map (·.t.f0)).Nodup → la.length ≤ N) :
    GDs ⟨lt.map (·.t), la.map (·.t)⟩ ↔ (((∀ x ∈ lt, GTy x.t) ∧ (∀ i (h : i + 1 < lt.length), cmpT lt[i].t.f0.data.toList lt[i + 1].t.f0.data.toList < 0) ∧ ∃ e, Ct clsW = some e ∧ e.t = ⟨clsW, 2, false⟩) ∧
      (∀ x ∈ la, EndsF (fun s => (Cc s).map (·.t)) N x.t.f0 ∧ goodName x.t.f0 = true ∧ GN lt x.t.f2 ∧ GN lt x.t.f3) ∧ ∀ i (h : i + 1 < la.length), cmpT la[i].t.f0.data.toList la[i + 1].t.f0.data.toList < 0) := by
  have r1 : RisS ((lt.map (·.t)).map (·.f0)) ↔ ∀ i (h : i + 1 < lt.length), cmpT lt[i].t.f0.data.toList lt[i + 1].t.f0.data.toList < 0 := by rw [List.map_map]; exact ris_map _
  have r2 : RisS ((la.map (·.t)).map (·.f0)) ↔ ∀ i (h : i + 1 < la.length), cmpT la[i].t.f0.data.toList la[i + 1].t.f0.data.toList < 0 := by rw [List.map_map]; exact ris_map _
  unfold GDs
  simp only
  rw [r1, r2]
  have t1 : (∀ t ∈ lt.map (·.t), GTy t) ↔ ∀ x ∈ lt, GTy x.t := by simp
  rw [t1]
  have key : (∀ i (h : i + 1 < la.length), cmpT la[i].t.f0.data.toList la[i + 1].t.f0.data.toList < 0) → ((∀ c ∈ la.map (·.t), GCl (lt.map (·.t)) (la.map (·.t)) c) ↔ ∀ x ∈ la, EndsF (fun s => (Cc s).map (·.t)) N x.t.f0 ∧ goodName x.t.f0 = true ∧ GN lt x.t.f2 ∧ GN lt x.t.f3) := fun hr => by
    have nd : (la.map (·.t.f0)).Nodup := by
      have := cmp_nodup (r2.2 hr)
      rwa [List.map_map] at this
    have hF : ∀ s, (Cc s).map (·.t) = fstC (la.map (·.t)) s := told_fst hc nd
    have hFe : (fun s => (Cc s).map (·.t)) = fstC (la.map (·.t)) := funext hF
    rw [hFe]
    have hmem : ∀ s c, fstC (la.map (·.t)) s = some c → ∃ d ∈ la.map (·.t), d.f0 = s := fun s c h => ⟨c, (fstC_mem h).1, (fstC_mem h).2⟩
    have hall := fun j s h => ends_all hmem j s h
    have hle := hN nd
    have lc : (la.map (·.t)).length = la.length := by simp
    have one : ∀ x ∈ la, goodName x.t.f0 = true → (EndsF (fstC (la.map (·.t))) ((la.map (·.t)).length + 1) x.t.f1 ↔ EndsF (fstC (la.map (·.t))) N x.t.f0) := fun x hx hg => by
      have ne : x.t.f0 ≠ ⟨#[]⟩ := fun e => by rw [e] at hg; revert hg; decide
      have hfx : fstC (la.map (·.t)) x.t.f0 = some x.t := by
        have := find_of_nodup (nm := fun c : ClassT => c.f0) (l := la.map (·.t)) (by rw [List.map_map]; exact nd) (List.mem_map_of_mem hx)
        exact this
      constructor
      · intro h
        have h2 : EndsF (fstC (la.map (·.t))) ((la.map (·.t)).length + 1 + 1) x.t.f0 := .inr ⟨_, hfx, h⟩
        exact (hall _ _ h2).mono (by rw [lc]; exact hle)
      · intro h
        have h2 := hall _ _ h
        rcases Nat.eq_zero_or_pos la.length with e | e
        · rw [lc, e] at h2; exact absurd h2 ne
        · rw [lc] at h2
          obtain ⟨j, hj⟩ : ∃ j, la.length = j + 1 := ⟨la.length - 1, by omega⟩
          rw [hj] at h2
          exact ((ends_step hfx ne).1 h2).mono (by rw [lc]; omega)
    constructor
    · intro h x hx
      obtain ⟨g1, g2, g3, g4⟩ := h _ (List.mem_map_of_mem hx)
      exact ⟨(one x hx g1).1 g4, g1, g2, g3⟩
    · intro h c hc'
      obtain ⟨x, hx, rfl⟩ := List.mem_map.1 hc'
      obtain ⟨g4, g1, g2, g3⟩ := h x hx
      exact ⟨g1, g2, g3, (one x hx g1).2 g4⟩
  have cl : (∀ i (h : i + 1 < lt.length), cmpT lt[i].t.f0.data.toList lt[i + 1].t.f0.data.toList < 0) → ((⟨clsW, 2, false⟩ : AttrTypeT) ∈ lt.map (·.t) ↔ ∃ e, Ct clsW = some e ∧ e.t = ⟨clsW, 2, false⟩) := fun hr => by
    have nd : (lt.map (·.t.f0)).Nodup := by
      have := cmp_nodup (r1.2 hr)
      rwa [List.map_map] at this
    obtain ⟨_, g2, g3⟩ := ht clsW
    constructor
    · intro h
      obtain ⟨e, he, het⟩ := List.mem_map.1 h
      have hs : (Ct clsW).isSome = true := g2.2 ⟨e, he, by show e.t.f0 = clsW; rw [het]⟩
      obtain ⟨e', he'⟩ := Option.isSome_iff_exists.1 hs
      obtain ⟨m1, m2⟩ := g3 e' he'
      have f1 := find_of_nodup (nm := fun x : AttrTypeE => x.t.f0) nd m1
      have f2 := find_of_nodup (nm := fun x : AttrTypeE => x.t.f0) nd he
      have m2' : e'.t.f0 = clsW := m2
      have e2' : e.t.f0 = clsW := by rw [het]
      rw [m2'] at f1
      rw [e2', f1] at f2
      cases f2
      exact ⟨_, he', het⟩
    · rintro ⟨e, he, het⟩
      rw [← het]
      exact List.mem_map_of_mem (g3 e he).1
  constructor
  · rintro ⟨_, ⟨a1, a2, a3⟩, a4, a5⟩
    exact ⟨⟨a1, a2, (cl a2).1 a3⟩, (key a5).1 a4, a5⟩
  · rintro ⟨⟨a1, a2, a3⟩, a4, a5⟩
    exact ⟨⟨by simpa using h0, by simpa using h1⟩, ⟨a1, a2, (cl a2).2 a3⟩, (key a5).2 a4, a5⟩
end Go.Proofs.Ytobmdeoppbjjpaa.V
