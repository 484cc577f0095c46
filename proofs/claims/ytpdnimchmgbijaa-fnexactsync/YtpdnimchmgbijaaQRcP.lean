/- Receiving, plainly: a change put into a rising list; the map says the same. -/
import Derived.Test.YtpdnimchmgbijaaQOrd
namespace Go.Proofs.Ytpdnimchmgbijaa
open Go.RowKit Go.Maps

def ltC (a b : DcT) : Prop := a.t < b.t ∨ (a.t = b.t ∧ a.o < b.o)
def sameC (a b : DcT) : Prop := a.t = b.t ∧ a.o = b.o
instance (a b : DcT) : Decidable (ltC a b) := by unfold ltC; infer_instance
instance (a b : DcT) : Decidable (sameC a b) := by unfold sameC; infer_instance
def insC (c : DcT) : List DcT → List DcT
  | [] => [c]
  | a :: l => if ltC a c then a :: insC c l else if sameC a c then a :: l else c :: a :: l
def recv (l more : List DcT) : List DcT := more.foldl (fun l c => insC c l) l
/-- How many stand ahead of c. -/
def aheadC (c : DcT) : List DcT → Nat
  | [] => 0
  | a :: l => if ltC a c then aheadC c l + 1 else 0
theorem aheadC_le (c : DcT) : ∀ l, aheadC c l ≤ l.length
  | [] => Nat.le_refl _
  | a :: l => by
    unfold aheadC
    split
    · have := aheadC_le c l; simp; omega
    · simp
theorem aheadC_lt (c : DcT) : ∀ (l : List DcT) (k : Nat) (h : k < l.length), k < aheadC c l → ltC l[k] c
  | [], k, h, _ => absurd h (Nat.not_lt_zero _)
  | a :: l, 0, _, hk => by
    unfold aheadC at hk
    split at hk
    · assumption
    · omega
  | a :: l, k + 1, h, hk => by
    unfold aheadC at hk
    split at hk
    · exact aheadC_lt c l k (by simpa using h) (by omega)
    · omega
theorem aheadC_at (c : DcT) : ∀ (l : List DcT) (h : aheadC c l < l.length), ¬ ltC l[aheadC c l] c
  | [], h => absurd h (Nat.not_lt_zero _)
  | a :: l, h => by
    by_cases e : ltC a c
    · have e2 : aheadC c (a :: l) = aheadC c l + 1 := by rw [aheadC, if_pos e]
      have h' : aheadC c l < l.length := by rw [e2] at h; simpa using h
      have := aheadC_at c l h'
      simpa [e2] using this
    · have e2 : aheadC c (a :: l) = 0 := by rw [aheadC, if_neg e]
      simpa [e2] using e
theorem insC_eq (c : DcT) : ∀ l, insC c l = if h : aheadC c l < l.length then (if sameC l[aheadC c l] c then l else l.take (aheadC c l) ++ c :: l.drop (aheadC c l)) else l.take (aheadC c l) ++ c :: l.drop (aheadC c l)
  | [] => rfl
  | a :: l => by
    by_cases e : ltC a c
    · have e2 : aheadC c (a :: l) = aheadC c l + 1 := by rw [aheadC, if_pos e]
      rw [insC, if_pos e, insC_eq c l]
      by_cases h : aheadC c l < l.length
      · rw [dif_pos h, dif_pos (by rw [e2]; simpa using h)]
        have e3 : (a :: l)[aheadC c (a :: l)]'(by rw [e2]; simpa using h) = l[aheadC c l] := by simp [e2]
        rw [e3, e2]
        split <;> simp
      · rw [dif_neg h, dif_neg (by rw [e2]; simpa using h), e2]
        simp
    · have e2 : aheadC c (a :: l) = 0 := by rw [aheadC, if_neg e]
      rw [insC, if_neg e, dif_pos (by rw [e2]; simp)]
      have e3 : (a :: l)[aheadC c (a :: l)]'(by rw [e2]; simp) = a := by simp [e2]
      rw [e3, e2]
      rfl
theorem insC_len (c : DcT) (l : List DcT) : (insC c l).length ≤ l.length + 1 := by
  induction l with
  | nil => simp [insC]
  | cons a l ih =>
    rw [insC]
    split
    · simp; omega
    · split <;> simp
theorem recv_len (l : List DcT) : ∀ more, (recv l more).length ≤ l.length + more.length := by
  intro more
  induction more generalizing l with
  | nil => simp [recv]
  | cons c more ih =>
    have h1 := ih (insC c l)
    have h2 := insC_len c l
    show (recv (insC c l) more).length ≤ _
    simp only [List.length_cons]
    omega

theorem insC_mem {c : DcT} : ∀ {l : List DcT}, l.Pairwise ltC → ∀ x, x ∈ insC c l ↔ (x ∈ l ∨ (x = c ∧ ∀ a ∈ l, ¬ sameC a c))
  | [], _, x => by simp [insC]
  | a :: l, hp, x => by
    rw [List.pairwise_cons] at hp
    rw [insC]
    split
    · rename_i h
      rw [List.mem_cons, insC_mem hp.2 x]
      have ns : ¬ sameC a c := by unfold ltC at h; unfold sameC; omega
      simp only [List.mem_cons]
      constructor
      · rintro (rfl | h1 | ⟨rfl, h1⟩)
        · exact .inl (.inl rfl)
        · exact .inl (.inr h1)
        · refine .inr ⟨rfl, fun b hb => ?_⟩
          rcases hb with rfl | hb
          · exact ns
          · exact h1 b hb
      · rintro ((rfl | h1) | ⟨rfl, h1⟩)
        · exact .inl rfl
        · exact .inr (.inl h1)
        · exact .inr (.inr ⟨rfl, fun b hb => h1 b (.inr hb)⟩)
    · rename_i h
      split
      · rename_i h2
        constructor
        · exact .inl
        · rintro (h1 | ⟨rfl, h1⟩)
          · exact h1
          · exact absurd h2 (h1 a (by simp))
      · rename_i h2
        rw [List.mem_cons]
        constructor
        · rintro (rfl | h1)
          · refine .inr ⟨rfl, fun b hb => ?_⟩
            rw [List.mem_cons] at hb
            rcases hb with rfl | hb
            · exact h2
            · have := hp.1 b hb
              unfold ltC at *; unfold sameC at *; omega
          · exact .inl h1
        · rintro (h1 | ⟨rfl, _⟩)
          · exact .inr h1
          · exact .inl rfl
theorem insC_ris {c : DcT} : ∀ {l : List DcT}, l.Pairwise ltC → (insC c l).Pairwise ltC
  | [], _ => by simp [insC]
  | a :: l, hp => by
    have hp' := hp
    rw [List.pairwise_cons] at hp
    rw [insC]
    split
    · rename_i h
      rw [List.pairwise_cons]
      refine ⟨fun x hx => ?_, insC_ris hp.2⟩
      rcases (insC_mem hp.2 x).1 hx with h1 | ⟨rfl, _⟩
      · exact hp.1 x h1
      · exact h
    · rename_i h
      split
      · exact hp'
      · rename_i h2
        rw [List.pairwise_cons]
        refine ⟨fun x hx => ?_, hp'⟩
        rw [List.mem_cons] at hx
        rcases hx with rfl | hx
        · unfold ltC at *; unfold sameC at *; omega
        · have := hp.1 x hx
          unfold ltC at *; unfold sameC at *; omega

theorem IsOrd.step {m : CMap} {L : List DcT} (h : IsOrd m L) (hm : ∀ x c, m x = some c → x = (c.t, c.o)) (c : DcT) : IsOrd (if (m (c.t, c.o)).isSome then m else updM m (c.t, c.o) c) (insC c L) := by
  refine ⟨insC_ris h.ris, fun x => ?_⟩
  rw [insC_mem h.ris x, h.mem]
  cases hmc : m (c.t, c.o) with
  | some d =>
    rw [if_pos (by simp)]
    constructor
    · rintro (h1 | ⟨rfl, h1⟩)
      · exact h1
      · have e := hm _ _ hmc
        rw [Prod.mk.injEq] at e
        exact absurd ⟨e.1.symm, e.2.symm⟩ (h1 d ((h.mem d).2 (by rw [← e.1, ← e.2]; exact hmc)))
    · exact .inl
  | none =>
    rw [if_neg (by simp)]
    have noc : ∀ a ∈ L, ¬ sameC a c := fun a ha hs => by
      have := (h.mem a).1 ha
      rw [hs.1, hs.2, hmc] at this
      cases this
    unfold updM
    by_cases e : (x.t, x.o) = (c.t, c.o)
    · rw [if_pos e]
      constructor
      · rintro (h1 | ⟨rfl, _⟩)
        · rw [e, hmc] at h1; cases h1
        · rfl
      · intro h1; cases h1; exact .inr ⟨rfl, noc⟩
    · rw [if_neg e]
      constructor
      · rintro (h1 | ⟨rfl, _⟩)
        · exact h1
        · exact absurd rfl e
      · exact .inl
theorem MOk.step {m : CMap} (h : MOk m) (c : DcT) (h1 : okI c.t) (h2 : okI c.o) : MOk (if (m (c.t, c.o)).isSome then m else updM m (c.t, c.o) c) := by
  split
  · exact h
  · intro x d hd
    unfold updM at hd
    split at hd
    · rename_i e
      cases hd
      rw [e]
      exact ⟨rfl, h1, h2⟩
    · exact h x d hd
theorem take_ord : ∀ (l : List DcT) (m : CMap) (L : List DcT), IsOrd m L → MOk m → (∀ c ∈ l, okI c.t ∧ okI c.o) → IsOrd (takeM m l) (recv L l) ∧ MOk (takeM m l)
  | [], m, L, h, hm, _ => ⟨h, hm⟩
  | c :: l, m, L, h, hm, ho => take_ord l _ _ (h.step (fun x d hd => (hm x d hd).1) c) (hm.step c (ho c (by simp)).1 (ho c (by simp)).2) (fun d hd => ho d (by simp [hd]))
theorem ord_nil : IsOrd (fun _ => none) [] := ⟨List.Pairwise.nil, fun c => by simp⟩
theorem mok_nil : MOk (fun _ => none) := fun _ _ h => by cases h
/-- A rising list is received as it is. -/
theorem insC_last {c : DcT} : ∀ {l : List DcT}, (∀ a ∈ l, ltC a c) → insC c l = l ++ [c]
  | [], _ => rfl
  | a :: l, h => by
    rw [insC, if_pos (h a (by simp)), insC_last (fun b hb => h b (by simp [hb]))]
    rfl
theorem recv_ris : ∀ (l L : List DcT), (L ++ l).Pairwise ltC → recv L l = L ++ l
  | [], L, _ => by simp [recv]
  | c :: l, L, h => by
    have h1 : ∀ a ∈ L, ltC a c := fun a ha => (List.pairwise_append.1 h).2.2 a ha c (by simp)
    show recv (insC c L) l = _
    rw [insC_last h1, recv_ris l (L ++ [c]) (by simpa using h)]
    simp
theorem pw_uniq : ∀ {l l' : List DcT}, l.Pairwise ltC → l'.Pairwise ltC → (∀ c, c ∈ l ↔ c ∈ l') → l = l'
  | [], [], _, _, _ => rfl
  | [], b :: l', _, _, h => absurd ((h b).2 (by simp)) (by simp)
  | a :: l, [], _, _, h => absurd ((h a).1 (by simp)) (by simp)
  | a :: l, b :: l', h1, h2, h => by
    have irr : ∀ c : DcT, ¬ ltC c c := fun c => by unfold ltC; omega
    rw [List.pairwise_cons] at h1 h2
    have e : a = b := by
      rcases List.mem_cons.1 ((h a).1 (by simp)) with e | h3
      · exact e
      · rcases List.mem_cons.1 ((h b).2 (by simp)) with e | h4
        · exact e.symm
        · have x1 := h2.1 a h3
          have x2 := h1.1 b h4
          unfold ltC at x1 x2; omega
    subst e
    rw [pw_uniq h1.2 h2.2 (fun c => ?_)]
    constructor
    · intro hc
      rcases List.mem_cons.1 ((h c).1 (by simp [hc])) with rfl | h3
      · exact absurd (h1.1 c hc) (irr c)
      · exact h3
    · intro hc
      rcases List.mem_cons.1 ((h c).2 (by simp [hc])) with rfl | h3
      · exact absurd (h2.1 c hc) (irr c)
      · exact h3
theorem IsOrd.uniq {m : CMap} {L L' : List DcT} (h : IsOrd m L) (h' : IsOrd m L') : L = L' := pw_uniq h.ris h'.ris fun c => (h.mem c).trans (h'.mem c).symm
/-- RisC says the same as Pairwise. -/
theorem ris_pw {l : List DcT} (h : RisC l l.length) : l.Pairwise ltC := by
  have h1 : ∀ i (hi : i + 1 < l.length), ltC l[i] l[i + 1] := fun i hi => (cmpS_lt _ _ _ _).1 (h (i + 1) hi (by omega) hi)
  have h2 : ∀ d i (hi : i + d + 1 < l.length), ltC l[i] l[i + d + 1] := by
    intro d
    induction d with
    | zero => intro i hi; exact h1 i hi
    | succ d ih =>
      intro i hi
      have x1 := ih i (by omega)
      have x2 := h1 (i + d + 1) (by omega)
      have e : i + (d + 1) + 1 = i + d + 1 + 1 := by omega
      simp only [e]
      unfold ltC at *
      omega
  rw [List.pairwise_iff_getElem]
  intro i j hi hj hij
  have := h2 (j - i - 1) i (by omega)
  have e : i + (j - i - 1) + 1 = j := by omega
  simpa [e] using this
theorem log_ord {l : List DcT} (hg : LogG l) : IsOrd (takeM (fun _ => none) l) l ∧ MOk (takeM (fun _ => none) l) := by
  have hk : ∀ c ∈ l, okI c.t ∧ okI c.o := fun c hc => by
    obtain ⟨i, hi, rfl⟩ := List.mem_iff_getElem.1 hc
    have := ch_range hg.2.1 i hi
    exact ⟨(okI_iff _).2 (by omega), (okI_iff _).2 (by omega)⟩
  have h := take_ord l _ [] ord_nil mok_nil hk
  rw [recv_ris l [] (by simpa using ris_pw hg.2.2)] at h
  simpa using h
theorem takeV_ge : ∀ (l : List DcT) (tv : Int → Int) (a : Int), tv a ≤ takeV tv l a
  | [], _, _ => Int.le_refl _
  | c :: l, tv, a => Int.le_trans (upd_le tv c.o c.t a) (takeV_ge l (upd tv c.o c.t) a)
theorem takeV_up : ∀ (l : List DcT) (tv : Int → Int) (c : DcT), c ∈ l → c.t ≤ takeV tv l c.o
  | d :: l, tv, c, h => by
    rcases List.mem_cons.1 h with rfl | h
    · refine Int.le_trans ?_ (takeV_ge l (upd tv c.o c.t) c.o)
      rw [upd_same]; omega
    · exact takeV_up l _ c h
/-- How many changes the map has. -/
theorem size_ord {w : World} {b n : Nat} {D : DataW Value} {m : CMap} {L : List DcT} (hown : w.ownsMap Try.prog 43 hvR b n D) (hD : ∀ x kl, keyOf Try.prog 43 (encS x) = some kl → Maps.has D kl = (m x).isSome ∧ ∀ c, m x = some c → ∀ z, D.atKey kl z = .held (dcV c)) (hm : MOk m) (h : IsOrd m L) : Maps.size D = L.length := by
  obtain ⟨es, e1, hpw, hkl⟩ := hown.entries lawKS
  obtain ⟨es', e2, hko⟩ := hown.keysOf
  obtain rfl : es = es' := by rw [e1] at e2; simpa using e2
  have hz : Maps.size D = es.length := by rw [e1]; rfl
  obtain ⟨f, hf⟩ : ∃ f : DcT → Lit, ∀ c kl, keyOf Try.prog 43 (encS (c.t, c.o)) = some kl → f c = kl := ⟨fun c => ((keyOf Try.prog 43 (encS (c.t, c.o))).getD (.bool true)), fun c kl h => by simp [h]⟩
  have key : ∀ c ∈ L, ∃ kl, keyOf Try.prog 43 (encS (c.t, c.o)) = some kl := fun c hc => by
    obtain ⟨_, o1, o2⟩ := hm _ _ ((h.mem c).1 hc)
    exact key_stamp c.t c.o o1 o2
  have nd1 : (L.map f).Nodup := by
    rw [List.Nodup, List.pairwise_map]
    refine h.ris.imp_of_mem fun {a b} ha hb hab e => ?_
    obtain ⟨ka, h1⟩ := key a ha
    obtain ⟨kb, h2⟩ := key b hb
    rw [hf a ka h1, hf b kb h2] at e
    have := encS_inj (lawKS.inj h1 (by rw [e]; exact h2))
    rw [Prod.mk.injEq] at this
    omega
  have nd2 : (es.map Prod.fst).Nodup := by
    rw [List.Nodup, List.pairwise_map]
    exact hpw
  have s1 : ∀ y ∈ L.map f, y ∈ es.map Prod.fst := fun y hy => by
    obtain ⟨c, hc, rfl⟩ := List.mem_map.1 hy
    obtain ⟨kl, h1⟩ := key c hc
    rw [hf c kl h1]
    have h2 := (hD _ kl h1).1
    rw [(h.mem c).1 hc] at h2
    rw [e1, has_eq] at h2
    obtain ⟨p, hp, hs⟩ := List.any_eq_true.1 (show es.any _ = true from h2)
    rw [← WideAt.sameKey_eq hs]
    exact List.mem_map_of_mem hp
  have s2 : ∀ y ∈ es.map Prod.fst, y ∈ L.map f := fun y hy => by
    obtain ⟨p, hp, rfl⟩ := List.mem_map.1 hy
    obtain ⟨v, hv⟩ := hko p hp
    obtain ⟨x, _, rfl⟩ := keyS_all hv
    have hh : Maps.has D p.1 = true := by
      rw [e1, has_eq, List.any_eq_true]
      exact ⟨p, hp, WideAt.sameKey_self (hkl p hp)⟩
    rw [(hD x p.1 hv).1] at hh
    cases hmx : m x with
    | none => rw [hmx] at hh; cases hh
    | some c =>
      obtain ⟨rfl, _⟩ := hm x c hmx
      exact List.mem_map.2 ⟨c, (h.mem c).2 hmx, hf c p.1 hv⟩
  have a1 := nodup_len _ _ nd1 s1
  have a2 := nodup_len _ _ nd2 s2
  rw [List.length_map, List.length_map] at a1 a2
  omega
end Go.Proofs.Ytpdnimchmgbijaa
