/- Sets of nests: impl.setOf, add, toldNests. -/
import Derived.Test.YtakjnbdjjeccoaaGReI
namespace Go.Proofs.Ytakjnbdjjeccoaa
open Go.RowKit Go.Maps

abbrev prN (x : NestT) : Bs × Bs := (x.f0, x.f1)
/-- What the map of a set of nests holds. -/
noncomputable def seM (S : Bs × Bs → Prop) : Bs × Bs → Option Value := fun p => @ite _ (S p) (Classical.propDecidable _) (some (.agg #[])) none
theorem seM_isSome {S : Bs × Bs → Prop} {p : Bs × Bs} : (seM S p).isSome = true ↔ S p := by
  unfold seM
  by_cases h : S p
  · rw [if_pos h]; simp [h]
  · rw [if_neg h]; simp [h]
theorem seM_put (S : Bs × Bs → Prop) (x : Bs × Bs) : updK (seM S) x (.agg #[]) = seM (fun p => S p ∨ p = x) := by
  funext p
  unfold updK seM
  by_cases h : p = x
  · rw [if_pos h, if_pos (.inr h)]
  · rw [if_neg h]
    by_cases k : S p
    · rw [if_pos k, if_pos (.inl k)]
    · rw [if_neg k, if_neg (fun q => q.elim k h)]
theorem seM_congr {S T : Bs × Bs → Prop} (h : ∀ p, S p ↔ T p) : seM S = seM T := by
  have : S = T := by funext p; exact propext (h p)
  rw [this]

set_option maxHeartbeats 400000 in
theorem addN_any (b n : Nat) (S : Bs × Bs → Prop) (x : Bs × Bs) (w : World) (hm : KM Try.prog 42 encN w b n (seM S)) (hn : n < maxLen) (hx : okKN x) :
    Calls Try.prog 61 #[.map (some b), .agg #[.string x.1, .string x.2]] w fun e w' => e = .returned (.tuple #[]) ∧ KM Try.prog 42 encN w' b (n + 1) (seM fun p => S p ∨ p = x) ∧ w.grownBy w' (some b) := by
  obtain ⟨W, hW⟩ : ∃ W, W = w.alloc (.cells #[.string x.1, .string x.2] 42) := ⟨_, rfl⟩
  have HM := hide (show KM Try.prog 42 encN W b n (seM S) by rw [hW]; exact hm.kept (World.grownBy_alloc _ _ none) (by simp))
  have g0 := hide (show w.grownBy W (some b) by rw [hW]; exact World.grownBy_alloc _ _ _)
  have HW := hide hW.symm
  have eM := hide (seM_put S x)
  clear hm hW
  go_enter Try.func61, Try.ntmps61
  go_wp2_with (at_mapUpdate; rw [unhide HW]; refine wpList_put_km _ kNest rfl _ _ _ _ rfl _ Try.underlying78 b n _ rfl (unhide HM) hn x (.agg #[]) rfl rfl hx ?_; intro w1 h1 h2 h3; rw [unhide eM] at h1)
  go_end0
  exact ⟨rfl, h1, (unhide g0).trans h2⟩

/-- The first k nests. -/
def SetK (l : List NestT) (k : Nat) : Bs × Bs → Prop := fun p => ∃ i, ∃ h : i < l.length, i < k ∧ (l[i].f0, l[i].f1) = p
theorem SetK.step {l : List NestT} {k : Nat} (hk : k < l.length) (p : Bs × Bs) : (SetK l k p ∨ p = (l[k].f0, l[k].f1)) ↔ SetK l (k + 1) p := by
  constructor
  · rintro (⟨i, hi, h1, h2⟩ | h)
    · exact ⟨i, hi, by omega, h2⟩
    · exact ⟨k, hk, by omega, h.symm⟩
  · rintro ⟨i, hi, h1, h2⟩
    by_cases e : i = k
    · subst e; exact .inr h2.symm
    · exact .inl ⟨i, hi, by omega, h2⟩
/-- The pairs of a list. -/
def SetL (l : List NestT) : Bs × Bs → Prop := fun p => ∃ x ∈ l, (NestT.f0 x, NestT.f1 x) = p
theorem SetK.all {l : List NestT} {k : Nat} (hk : k = l.length) (p : Bs × Bs) : SetK l k p ↔ SetL l p := by
  subst hk
  constructor
  · rintro ⟨i, hi, _, h⟩; exact ⟨l[i], List.getElem_mem hi, h⟩
  · rintro ⟨x, hx, h⟩
    obtain ⟨i, hi, rfl⟩ := List.getElem_of_mem hx
    exact ⟨i, hi, hi, h⟩

set_option maxRecDepth 100000 in
set_option maxHeartbeats 1000000 in
theorem setOf_any (a : Option Addr) (len cap : Nat) (l : List NestT) (w : World) (hl : len ≤ 200) (hs : SlNest w a len l) (hok : ∀ q ∈ l, NestT.Ok q) :
    Calls Try.prog 60 #[.slice a len cap] w fun e w' => (∃ b, e = .returned (.map (some b)) ∧ w.heap.size ≤ b ∧ KM Try.prog 42 encN w' b 200 (seM (SetL l))) ∧ Below w.heap.size w w' := by
  have HS := hide hs
  have HO := hide hok
  have HL := hide hs.1
  obtain ⟨W, hW⟩ : ∃ W, W = w.alloc (.map #[] 0) := ⟨_, rfl⟩
  have K0 := hide (show KM Try.prog 42 encN W w.heap.size 0 (seM (SetK l 0)) from by
    have e : seM (SetK l 0) = fun _ => none := by
      funext p; unfold seM; rw [if_neg (by rintro ⟨_, _, h, _⟩; omega)]
    rw [e, hW]; exact KM.made _ _ _ w)
  have B0 := hide (show Below w.heap.size w W by rw [hW]; exact bAl (Below.refl _ _) _)
  have HW := hide hW.symm
  have hmm := @run_makeMap Try.prog
  clear hs hok hW
  go_enter Try.func60, Try.ntmps60
  go_wp2_with fail
  rw [unhide HW]
  go_loopw [9] (fun i wr => ∃ k : Nat, k ≤ len ∧ i = .int .i64 k ∧ Hid (KM Try.prog 42 encN wr w.heap.size k (seM (SetK l k))) ∧ Hid (Below w.heap.size w wr)) (fun i _ => len - (Go.RowKit.intOf i).toNat)
  case atStart => exact ⟨0, Nat.zero_le _, rfl, K0, B0⟩
  case round =>
    clear K0 B0 HW hmm
    obtain ⟨k, hk, rfl, hK, hB⟩ := hrel
    by_cases hlt : k < len
    · have hk' : k < l.length := by rw [← unhide HL]; exact hlt
      obtain ⟨b, off, rfl, hrow⟩ := ((unhide HS).keep (unhide hB)).at hlt
      have c0 := hrow.c0 k hk'
      have c1 := hrow.c1 k hk'
      have zk := hrow.z
      have ho := unhide HO _ (List.getElem_mem hk')
      obtain ⟨W2, hW2⟩ : ∃ W, W = wr.alloc (.cells #[.string (l[k]).f0, .string (l[k]).f1] 42) := ⟨_, rfl⟩
      have K2 := (unhide hK).kept (show wr.grownBy W2 none by rw [hW2]; exact World.grownBy_alloc _ _ _) (by simp)
      have B2 := hide (show Below w.heap.size w W2 by rw [hW2]; exact bAl (unhide hB) _)
      have HW2 := hide hW2.symm
      have qa := hide (addN_any w.heap.size k (SetK l k) ((l[k]).f0, (l[k]).f1) W2 K2 (by unfold maxLen; omega) ⟨ho.o0, ho.o1⟩)
      have eS := hide (seM_congr (SetK.step hk'))
      rw [unhide eS] at qa
      clear hrow ho hW2 K2 hK hB eS
      generalize l[k] = A at c0 c1 qa HW2
      simp only at qa
      go_wp2_with fail
      rw [unhide HW2]
      refine (unhide qa).mono ?_
      rintro e w3 ⟨rfl, h1, h2⟩
      have K3 := hide h1
      have B3 := hide ((unhide B2).grown h2 (unhide B2).size (fun q h => by cases h; exact Nat.le_refl _))
      clear h1 h2 qa HW2 B2
      go_wp2_with fail
      exact ⟨⟨k + 1, by omega, by go_num, K3, B3⟩, by simp [Go.RowKit.intOf]; omega⟩
    · have ek : k = l.length := by rw [← unhide HL]; omega
      have FIN := hide (show KM Try.prog 42 encN wr w.heap.size 200 (seM (SetL l)) by rw [← seM_congr (SetK.all ek)]; exact (unhide hK).more (by omega))
      clear hK ek
      go_wp2_with fail
      go_ret
      exact ⟨⟨_, rfl, Nat.le_refl _, unhide FIN⟩, unhide hB⟩

/-- How many entries a set's map has, and its keys. -/
theorem keys_list : ∀ (es : List (Lit × DataW Value)), (∀ p ∈ es, ∃ x, keyOf Try.prog 42 (encN x) = some p.1) → es.Pairwise (fun p q => p.1 ≠ q.1) → ∃ ss : List (Bs × Bs), ss.length = es.length ∧ ss.Nodup ∧ ∀ x, x ∈ ss ↔ ∃ kl, keyOf Try.prog 42 (encN x) = some kl ∧ ∃ p ∈ es, p.1 = kl
  | [], _, _ => ⟨[], rfl, List.nodup_nil, fun x => by simp⟩
  | p :: es, h, hp => by
    rw [List.pairwise_cons] at hp
    obtain ⟨ss, h1, h2, h3⟩ := keys_list es (fun q hq => h q (by simp [hq])) hp.2
    obtain ⟨x, hx⟩ := h p (by simp)
    refine ⟨x :: ss, by simp [h1], List.nodup_cons.2 ⟨fun hm => ?_, h2⟩, fun y => ?_⟩
    · obtain ⟨kl, e1, q, hq, e2⟩ := (h3 x).1 hm
      rw [hx] at e1
      cases e1
      exact hp.1 q hq e2.symm
    · rw [List.mem_cons, h3 y]
      constructor
      · rintro (rfl | ⟨kl, e1, q, hq, e2⟩)
        · exact ⟨p.1, hx, p, by simp, rfl⟩
        · exact ⟨kl, e1, q, by simp [hq], e2⟩
      · rintro ⟨kl, e1, q, hq, e2⟩
        rcases List.mem_cons.1 hq with rfl | hq
        · subst e2
          exact .inl (encN_inj (lawKN.inj e1 hx))
        · exact .inr ⟨kl, e1, q, hq, e2⟩
theorem size_keys {w : World} {b n : Nat} {D : DataW Value} (hown : w.ownsMap Try.prog 42 hvR b n D) : ∃ ss : List (Bs × Bs), ss.length = Maps.size D ∧ KeysN D ss := by
  obtain ⟨es, hD, hpw, hkl⟩ := hown.entries lawKN
  obtain ⟨es', hD', hko⟩ := hown.keysOf
  obtain rfl : es = es' := by rw [hD] at hD'; simpa using hD'
  subst hD
  obtain ⟨ss, h1, h2, h3⟩ := keys_list es (fun p hp => by
    obtain ⟨v, hv⟩ := hko p hp
    obtain ⟨x, _, rfl⟩ := keyN_all hv
    exact ⟨x, hv⟩) hpw
  refine ⟨ss, h1, h2, fun x => ?_⟩
  rw [h3 x]
  constructor
  · rintro ⟨kl, e1, p, hp, e2⟩
    refine ⟨kl, e1, ?_⟩
    rw [has_eq, List.any_eq_true]
    exact ⟨p, hp, by rw [e2]; exact WideAt.sameKey_self (lawKN.key e1)⟩
  · rintro ⟨kl, e1, h⟩
    rw [has_eq, List.any_eq_true] at h
    obtain ⟨p, hp, hs⟩ := h
    refine ⟨kl, e1, p, hp, ?_⟩
    by_cases e : p.1 = kl
    · exact e
    · rw [Maps.sameKey_ne e] at hs; cases hs
end Go.Proofs.Ytakjnbdjjeccoaa
