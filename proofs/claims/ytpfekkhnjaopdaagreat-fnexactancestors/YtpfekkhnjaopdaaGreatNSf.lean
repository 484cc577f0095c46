/- slices.SortedFunc(maps.Keys(m), impl.CompareAtoms) at a set of good atoms. -/
import Derived.Test.YtpfekkhnjaopdaaGreatNIt
import Derived.Test.YtpfekkhnjaopdaaGreatSSo
import Derived.Test.YtpfekkhnjaopdaaGreatNAn
namespace Go.Proofs.YtpfekkhnjaopdaaGreat.V
set_option linter.unusedSimpArgs false
set_option linter.unusedVariables false
open Go.RowKit Go.Maps Go.Sort Go.Shelf

theorem keys_listA : ∀ (es : List (Lit × DataW Value)), (∀ p ∈ es, ∃ x, keyOf Tryz.prog 31 (encA x) = some p.1) → es.Pairwise (fun p q => p.1 ≠ q.1) → ∃ ss : List AtomT, ss.length = es.length ∧ ss.Nodup ∧ ∀ x, x ∈ ss ↔ ∃ kl, keyOf Tryz.prog 31 (encA x) = some kl ∧ ∃ p ∈ es, p.1 = kl
  | [], _, _ => ⟨[], rfl, List.nodup_nil, fun x => by simp⟩
  | p :: es, h, hp => by
    rw [List.pairwise_cons] at hp
    obtain ⟨ss, h1, h2, h3⟩ := keys_listA es (fun q hq => h q (by simp [hq])) hp.2
    obtain ⟨x, hx⟩ := h p (by simp)
    refine ⟨x :: ss, by simp [h1], List.nodup_cons.2 ⟨fun hm => ?_, h2⟩, fun y => ?_⟩
    · obtain ⟨kl, e1, q, hq, e2⟩ := (h3 x).1 hm
      rw [hx] at e1
      cases e1
      exact hp.1 q hq e2.symm
    · rw [List.mem_cons, h3 y]
      constructor
      · rintro (rfl | ⟨kl, e1, q, hq, e2⟩)
        · exact ⟨p.1, hx, p, by simp, rfl⟩
        · exact ⟨kl, e1, q, by simp [hq], e2⟩
      · rintro ⟨kl, e1, q, hq, e2⟩
        rcases List.mem_cons.1 hq with rfl | hq
        · subst e2
          exact .inl (encA_inj (lawA.inj e1 hx))
        · exact .inr ⟨kl, e1, q, hq, e2⟩
theorem size_keysA {w : World} {b n : Nat} {D : DataW Value} (hown : w.ownsMap Tryz.prog 31 hvR b n D) : ∃ ss : List AtomT, ss.length = Maps.size D ∧ KeysN D ss := by
  obtain ⟨es, hD, hpw, hkl⟩ := hown.entries lawA
  obtain ⟨es', hD', hko⟩ := hown.keysOf
  obtain rfl : es = es' := by rw [hD] at hD'; simpa using hD'
  subst hD
  obtain ⟨ss, h1, h2, h3⟩ := keys_listA es (fun p hp => by
    obtain ⟨v, hv⟩ := hko p hp
    obtain ⟨x, rfl, _⟩ := keyA_all hv
    exact ⟨x, hv⟩) hpw
  refine ⟨ss, h1, h2, fun x => ?_⟩
  rw [h3 x]
  constructor
  · rintro ⟨kl, e1, p, hp, e2⟩
    refine ⟨kl, e1, ?_⟩
    rw [has_eq, List.any_eq_true]
    exact ⟨p, hp, by rw [e2]; exact WideAt.sameKey_self (lawA.key e1)⟩
  · rintro ⟨kl, e1, h⟩
    rw [has_eq, List.any_eq_true] at h
    obtain ⟨p, hp, hs⟩ := h
    refine ⟨kl, e1, p, hp, ?_⟩
    by_cases e : p.1 = kl
    · exact e
    · rw [Maps.sameKey_ne e] at hs; cases hs
/-- The keys of a set's map are its members. -/
theorem KeysN.set {D : DataW Value} {S : AtomT → Prop} (hD : KD Tryz.prog 31 encA D (seA S)) (hS : ∀ x, S x → OkA x) {ss : List AtomT} (h : KeysN D ss) : ∀ x, x ∈ ss ↔ S x := fun x => by
  rw [h.2 x]
  constructor
  · rintro ⟨kl, e1, e2⟩
    rw [(hD x kl e1).1] at e2
    exact seA_isSome.1 e2
  · intro hx
    obtain ⟨kl, e1⟩ := key_atom x (hS x hx)
    exact ⟨kl, e1, by rw [(hD x kl e1).1]; exact seA_isSome.2 hx⟩
theorem nd_lenA {ss U : List AtomT} (h : ss.Nodup) (hU : ∀ x ∈ ss, x ∈ U) : ss.length ≤ U.length := nd_len h hU

set_option maxHeartbeats 1000000 in
theorem sortAtomsN (l : List AtomT) (h : ∀ a ∈ l, a.good = true ∧ a.Ok) (g cap base : Nat) (w : World) (hl : l.length ≤ 1000000) (ho : w.ownsRow base 31 4 (.slice (some ⟨g, 0, none⟩) l.length cap) l.length (atomsV l)) :
    Calls Tryz.prog 55 #[.slice (some ⟨g, 0, none⟩) l.length cap, .func (.func 30) #[] #[]] w fun e w' => e = .returned (.tuple #[]) ∧
      ∃ l' : List AtomT, Hid (l'.Perm l ∧ Srt l' ∧ w'.ownsRow base 31 4 (.slice (some ⟨g, 0, none⟩) l.length cap) l.length (atomsV l') ∧ Below base w w') := by
  have hk : ∀ x, (celG x).length = 4 := fun _ => rfl
  rcases ho.2 with ⟨h', _⟩ | ⟨g', cap', cur, h', hb, hg, r1, r2, r3, r4⟩
  · simp at h'
  · simp only [Value.slice.injEq, Option.some.injEq, Addr.mk.injEq, and_true, true_and] at h'
    obtain ⟨rfl, rfl⟩ := h'
    have hgl : g < w.heap.size := (Array.getElem?_eq_some_iff.1 hg).1
    obtain ⟨ss, hss⟩ : ∃ ss, gl l h = ss := ⟨_, rfl⟩
    have hval : ss.map Subtype.val = l := by rw [← hss]; exact gl_val l h
    have hlen : ss.length = l.length := by rw [← hss]; exact gl_len l h
    have qs := AnyQ.slices_SortFunc Tryz.sortF55 4 Tryz.isAgg31 Tryz.sizeOf31 celG hk (fun x u hu => by simp [celG, cellsA] at hu; rcases hu with rfl | rfl | rfl | rfl <;> rfl) cfG swoG 30 #[] g 0 cap ss.toArray w
      (enters_of Tryz.func30 (by kernel_rfl) rfl) (cmpLaysG g 0 _ w) (holdsK_of hk (by omega) hg (by rw [hlen, r4, flat_val, hval])) hgl (by simp; omega)
    have e1 : ss.toArray.size = l.length := by simpa using hlen
    rw [e1] at qs
    refine qs.mono fun e w' ⟨he, d', n, os, hp, hs, hw⟩ => ⟨he, d'.toList.map Subtype.val, hide ?_⟩
    have hp' := hp
    have hs' := hs
    rw [← e1] at hp' hs'
    obtain ⟨z1, z2, z3⟩ := perm_sorted hp' hs'
    have gr : w.grownBy w' (some g) := by rw [hw]; exact sortedK_grown _
    refine ⟨by rw [← hval]; exact z2.map _, ?_, ?_, (Below.refl base w).grown gr (by omega) (fun j hj => by cases hj; exact hb)⟩
    · intro i j hij hj
      rw [List.length_map] at hj
      have := (List.pairwise_iff_getElem.1 z3) i j (by omega) hj hij
      unfold ltOf cfG at this
      rw [List.getElem_map, List.getElem_map]
      simpa using this
    · have := sortedK_own (n := n) (os := os) (base := base) hk (by omega) (ss := ss) (ts := d'.toList) z1 hb hg (by rw [hlen]; exact r1) r2 r3
      rw [hlen, flat_val] at this
      rw [hw]; simpa using this
set_option maxRecDepth 100000 in
set_option maxHeartbeats 1000000 in
theorem sortedFuncA (b nn : Nat) (S : AtomT → Prop) (U : List AtomT) (w : World) (hk0 : KAt w b nn (seA S)) (hS : ∀ x, S x → (x.good = true ∧ x.Ok) ∧ OkA x) (hU : ∀ x, S x → x ∈ U) (hmax : U.length ≤ 1000000) :
    Calls Tryz.prog 27 #[.func (.func 56) #[] #[.pointer (some ⟨w.heap.size, 0, none⟩)], .func (.func 30) #[] #[]] (w.alloc (.cells #[.map (some b)] 69)) fun e w' => ∃ (v : Value) (ss : List AtomT), e = .returned v ∧ (ss.Nodup ∧ (∀ x, x ∈ ss ↔ S x) ∧ Srt ss) ∧
      w'.ownsRow (w.alloc (.cells #[.map (some b)] 69)).heap.size 31 4 v ss.length (atomsV ss) ∧ Below (w.alloc (.cells #[.map (some b)] 69)).heap.size (w.alloc (.cells #[.map (some b)] 69)) w' := by
  obtain ⟨D0, hown, hD⟩ := hk0
  have hsz : Maps.size D0 ≤ 1000000 := by
    obtain ⟨ss, e1, e2⟩ := size_keysA hown
    have := nd_lenA e2.1 (fun x hx => hU x ((e2.set hD (fun x hx => (hS x hx).2) x).1 hx))
    omega
  have hbl := hown.lt
  have hk : ∀ x, (celG x).length = 4 := fun _ => rfl
  obtain ⟨W, hW⟩ : ∃ W, W = w.alloc (.cells #[.map (some b)] 69) := ⟨_, rfl⟩
  have hseq : SeqGives Fence.wide 4 Tryz.prog 56 #[.pointer (some ⟨w.heap.size, 0, none⟩)] encA (fun ss => KeysN D0 ss) (Maps.size D0) W := by
    rw [hW]
    exact givesN 4 (by omega) w.heap.size b nn D0 _ (by simp) (by simp) (by
      obtain ⟨es, clock, hb, Ft, hs, hD⟩ := hown
      exact ⟨es, clock, (Below.heap_alloc _ _ b hbl).trans hb, Ft, hs, hD⟩)
  rw [← hW]
  have qc := hide (collectN 56 _ (enters_of Tryz.func56 (by kernel_rfl) rfl) _ (Maps.size D0) (by unfold maxLen; omega) (by omega) W hseq.bounded)
  have KS : Hid (∀ ss, KeysN D0 ss → ∀ x, x ∈ ss ↔ S x) := hide (fun ss h => h.set hD (fun x hx => (hS x hx).2))
  have GS := hide (fun x hx => (hS x hx).1)
  have HSZ := hide hsz
  clear hseq hW hown hD hS hU hmax hsz
  go_enter Tryz.func27, Tryz.ntmps27
  go_wp2_with fail
  refine (unhide qc).mono ?_
  rintro e w1 ⟨v, ss, rfl, ⟨hS, hlen⟩, hrow, hnil, hb⟩
  clear qc
  rcases hrow.2 with ⟨rfl, hz⟩ | ⟨gb, cap, cur, rfl, hbase, hgb, r1, r2, r3, r4⟩
  · have hss : ss = [] := List.eq_nil_of_length_eq_zero hz
    subst hss
    have qn := hide (AnyF.slices_SortFunc_none Tryz.sortF55 none 0 (.func (.func 30) #[] #[]) w1)
    have O := hide hrow
    have B := hide hb
    have K := hide (unhide KS [] hS)
    clear hrow hb hS hnil
    go_wp2_with fail
    refine (unhide qn).mono ?_
    rintro e w2 ⟨rfl, rfl⟩
    go_wp2_with fail
    go_ret
    exact ⟨.slice none 0 0, [], rfl, ⟨List.nodup_nil, unhide K, fun i j _ hj => absurd hj (Nat.not_lt_zero _)⟩, unhide O, unhide B⟩
  · have hmem := unhide KS ss hS
    have hsl : ss.length ≤ 1000000 := Nat.le_trans hlen (unhide HSZ)
    have qs := hide (sortAtomsN ss (fun a ha => unhide GS a ((hmem a).1 ha)) gb cap W.heap.size w1 hsl hrow)
    have F := hide (show ∀ l' : List AtomT, l'.Perm ss → l'.Nodup ∧ (∀ x, x ∈ l' ↔ S x) ∧ l'.length = ss.length from fun l' hp => ⟨hp.nodup_iff.2 hS.1, fun x => hp.mem_iff.trans (hmem x), hp.length_eq⟩)
    have B := hide hb
    clear hS hlen hrow hnil hb hgb r1 r2 r3 r4 hbase hmem hsl
    generalize ss.length = N at qs F
    go_wp2_with fail
    refine (unhide qs).mono ?_
    rintro e w2 ⟨rfl, l', hl'⟩
    have G := hide (unhide hl')
    clear hl' qs
    go_wp2_with fail
    go_ret
    obtain ⟨g1, g2, g3, g4⟩ := unhide G
    obtain ⟨f1, f2, f3⟩ := unhide F l' g1
    exact ⟨_, l', rfl, ⟨f1, f2, g2⟩, by rw [f3]; exact g3, (unhide B).trans g4⟩
end Go.Proofs.YtpfekkhnjaopdaaGreat.V
