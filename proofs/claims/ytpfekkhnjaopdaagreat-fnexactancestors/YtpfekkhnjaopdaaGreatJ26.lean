/- NSf, NHd, one behind the other. -/
import Derived.Test.YtpfekkhnjaopdaaGreatJ19
import Derived.Test.YtpfekkhnjaopdaaGreatJ22
import Derived.Test.YtpfekkhnjaopdaaGreatJ25
/- slices.SortedFunc(maps.Keys(m), impl.CompareAtoms) at a set of good atoms. -/
namespace Go.Proofs.YtpfekkhnjaopdaaGreat.V
set_option linter.unusedSimpArgs false
set_option linter.unusedVariables false
open Go.RowKit Go.Maps Go.Sort Go.Shelf

theorem keys_listA : ∀ (es : List (Lit × DataW Value)), (∀ p ∈ es, ∃ x, keyOf Tryz.prog 31 (encA x) = some p.1) → es.Pairwise (fun p q => p.1 ≠ q.1) → ∃ ss : List AtomT, ss.length = es.length ∧ ss.Nodup ∧ ∀ x, x ∈ ss ↔ ∃ kl, keyOf Tryz.prog 31 (encA x) = some kl ∧ ∃ p ∈ es, p.1 = kl
  | [], _, _ => ⟨[], rfl, List.nodup_nil, fun x => by simp⟩
  | p :: es, h, hp => by
    rw [List.pairwise_cons] at hp
    obtain ⟨ss, h1, h2, h3⟩ := keys_listA es (fun q hq => h q (by simp [hq])) hp.2
    obtain ⟨x, hx⟩ := h p (by simp)
    refine ⟨x :: ss, by simp [h1], List.nodup_cons.2 ⟨fun hm => ?_, h2⟩, fun y => ?_⟩
    · obtain ⟨kl, e1, q, hq, e2⟩ := (h3 x).1 hm
      rw [hx] at e1
      cases e1
      exact hp.1 q hq e2.symm
    · rw [List.mem_cons, h3 y]
      constructor
      · rintro (rfl | ⟨kl, e1, q, hq, e2⟩)
        · exact ⟨p.1, hx, p, by simp, rfl⟩
        · exact ⟨kl, e1, q, by simp [hq], e2⟩
      · rintro ⟨kl, e1, q, hq, e2⟩
        rcases List.mem_cons.1 hq with rfl | hq
        · subst e2
          exact .inl (encA_inj (lawA.inj e1 hx))
        · exact .inr ⟨kl, e1, q, hq, e2⟩
theorem size_keysA {w : World} {b n : Nat} {D : DataW Value} (hown : w.ownsMap Tryz.prog 31 hvR b n D) : ∃ ss : List AtomT, ss.length = Maps.size D ∧ KeysN D ss := by
  obtain ⟨es, hD, hpw, hkl⟩ := hown.entries lawA
  obtain ⟨es', hD', hko⟩ := hown.keysOf
  obtain rfl : es = es' := by rw [hD] at hD'; simpa using hD'
  subst hD
  obtain ⟨ss, h1, h2, h3⟩ := keys_listA es (fun p hp => by
    obtain ⟨v, hv⟩ := hko p hp
    obtain ⟨x, rfl, _⟩ := keyA_all hv
    exact ⟨x, hv⟩) hpw
  refine ⟨ss, h1, h2, fun x => ?_⟩
  rw [h3 x]
  constructor
  · rintro ⟨kl, e1, p, hp, e2⟩
    refine ⟨kl, e1, ?_⟩
    rw [has_eq, List.any_eq_true]
    exact ⟨p, hp, by rw [e2]; exact WideAt.sameKey_self (lawA.key e1)⟩
  · rintro ⟨kl, e1, h⟩
    rw [has_eq, List.any_eq_true] at h
    obtain ⟨p, hp, hs⟩ := h
    refine ⟨kl, e1, p, hp, ?_⟩
    by_cases e : p.1 = kl
    · exact e
    · rw [Maps.sameKey_ne e] at hs; cases hs
/-- The keys of a set's map are its members. -/
theorem KeysN.set {D : DataW Value} {S : AtomT → Prop} (hD : KD Tryz.prog 31 encA D (seA S)) (hS : ∀ x, S x → OkA x) {ss : List AtomT} (h : KeysN D ss) : ∀ x, x ∈ ss ↔ S x := fun x => by
  rw [h.2 x]
  constructor
  · rintro ⟨kl, e1, e2⟩
    rw [(hD x kl e1).1] at e2
    exact seA_isSome.1 e2
  · intro hx
    obtain ⟨kl, e1⟩ := key_atom x (hS x hx)
    exact ⟨kl, e1, by rw [(hD x kl e1).1]; exact seA_isSome.2 hx⟩
theorem nd_lenA {ss U : List AtomT} (h : ss.Nodup) (hU : ∀ x ∈ ss, x ∈ U) : ss.length ≤ U.length := nd_len h hU

set_option maxHeartbeats 1000000 in
theorem sortAtomsN (l : List AtomT) (h : ∀ a ∈ l, a.good = true ∧ a.Ok) (g cap base : Nat) (w : World) (hl : l.length ≤ 1000000) (ho : w.ownsRow base 31 4 (.slice (some ⟨g, 0, none⟩) l.length cap) l.length (atomsV l)) :
    Calls Tryz.prog 55 #[.slice (some ⟨g, 0, none⟩) l.length cap, .func (.func 30) #[] #[]] w fun e w' => e = .returned (.tuple #[]) ∧
      ∃ l' : List AtomT, Hid (l'.Perm l ∧ Srt l' ∧ w'.ownsRow base 31 4 (.slice (some ⟨g, 0, none⟩) l.length cap) l.length (atomsV l') ∧ Below base w w') := by
  have hk : ∀ x, (celG x).length = 4 := fun _ => rfl
  rcases ho.2 with ⟨h', _⟩ | ⟨g', cap', cur, h', hb, hg, r1, r2, r3, r4⟩
  · simp at h'
  · simp only [Value.slice.injEq, Option.some.injEq, Addr.mk.injEq, and_true, true_and] at h'
    obtain ⟨rfl, rfl⟩ := h'
    have hgl : g < w.heap.size := (Array.getElem?_eq_some_iff.1 hg).1
    obtain ⟨ss, hss⟩ : ∃ ss, gl l h = ss := ⟨_, rfl⟩
    have hval : ss.map Subtype.val = l := by rw [← hss]; exact gl_val l h
    have hlen : ss.length = l.length := by rw [← hss]; exact gl_len l h
    have qs := AnyQ.slices_SortFunc Tryz.sortF55 4 Tryz.isAgg31 Tryz.sizeOf31 celG hk (fun x u hu => by simp [celG, cellsA] at hu; rcases hu with rfl | rfl | rfl | rfl <;> rfl) cfG swoG 30 #[] g 0 cap ss.toArray w
      (enters_of Tryz.func30 (by kernel_rfl) rfl) (cmpLaysG g 0 _ w) (holdsK_of hk (by omega) hg (by rw [hlen, r4, flat_val, hval])) hgl (by simp; omega)
    have e1 : ss.toArray.size = l.length := by simpa using hlen
    rw [e1] at qs
    refine qs.mono fun e w' ⟨he, d', n, os, hp, hs, hw⟩ => ⟨he, d'.toList.map Subtype.val, hide ?_⟩
    have hp' := hp
    have hs' := hs
    rw [← e1] at hp' hs'
    obtain ⟨z1, z2, z3⟩ := perm_sorted hp' hs'
    have gr : w.grownBy w' (some g) := by rw [hw]; exact sortedK_grown _
    refine ⟨by rw [← hval]; exact z2.map _, ?_, ?_, (Below.refl base w).grown gr (by omega) (fun j hj => by cases hj; exact hb)⟩
    · intro i j hij hj
      rw [List.length_map] at hj
      have := (List.pairwise_iff_getElem.1 z3) i j (by omega) hj hij
      unfold ltOf cfG at this
      rw [List.getElem_map, List.getElem_map]
      simpa using this
    · have := sortedK_own (n := n) (os := os) (base := base) hk (by omega) (ss := ss) (ts := d'.toList) z1 hb hg (by rw [hlen]; exact r1) r2 r3
      rw [hlen, flat_val] at this
      rw [hw]; simpa using this
set_option maxRecDepth 100000 in
set_option maxHeartbeats 1000000 in
theorem sortedFuncA (b nn : Nat) (S : AtomT → Prop) (U : List AtomT) (w : World) (hk0 : KAt w b nn (seA S)) (hS : ∀ x, S x → (x.good = true ∧ x.Ok) ∧ OkA x) (hU : ∀ x, S x → x ∈ U) (hmax : U.length ≤ 1000000) :
    Calls Tryz.prog 27 #[.func (.func 56) #[] #[.pointer (some ⟨w.heap.size, 0, none⟩)], .func (.func 30) #[] #[]] (w.alloc (.cells #[.map (some b)] 69)) fun e w' => ∃ (v : Value) (ss : List AtomT), e = .returned v ∧ (ss.Nodup ∧ (∀ x, x ∈ ss ↔ S x) ∧ Srt ss) ∧
      w'.ownsRow (w.alloc (.cells #[.map (some b)] 69)).heap.size 31 4 v ss.length (atomsV ss) ∧ Below (w.alloc (.cells #[.map (some b)] 69)).heap.size (w.alloc (.cells #[.map (some b)] 69)) w' := by
  obtain ⟨D0, hown, hD⟩ := hk0
  have hsz : Maps.size D0 ≤ 1000000 := by
    obtain ⟨ss, e1, e2⟩ := size_keysA hown
    have := nd_lenA e2.1 (fun x hx => hU x ((e2.set hD (fun x hx => (hS x hx).2) x).1 hx))
    omega
  have hbl := hown.lt
  have hk : ∀ x, (celG x).length = 4 := fun _ => rfl
  obtain ⟨W, hW⟩ : ∃ W, W = w.alloc (.cells #[.map (some b)] 69) := ⟨_, rfl⟩
  have hseq : SeqGives Fence.wide 4 Tryz.prog 56 #[.pointer (some ⟨w.heap.size, 0, none⟩)] encA (fun ss => KeysN D0 ss) (Maps.size D0) W := by
    rw [hW]
    exact givesN 4 (by omega) w.heap.size b nn D0 _ (by simp) (by simp) (by
      obtain ⟨es, clock, hb, Ft, hs, hD⟩ := hown
      exact ⟨es, clock, (Below.heap_alloc _ _ b hbl).trans hb, Ft, hs, hD⟩)
  rw [← hW]
  have qc := hide (collectN 56 _ (enters_of Tryz.func56 (by kernel_rfl) rfl) _ (Maps.size D0) (by unfold maxLen; omega) (by omega) W hseq.bounded)
  have KS : Hid (∀ ss, KeysN D0 ss → ∀ x, x ∈ ss ↔ S x) := hide (fun ss h => h.set hD (fun x hx => (hS x hx).2))
  have GS := hide (fun x hx => (hS x hx).1)
  have HSZ := hide hsz
  clear hseq hW hown hD hS hU hmax hsz
  go_enter Tryz.func27, Tryz.ntmps27
  go_wp2_with fail
  refine (unhide qc).mono ?_
  rintro e w1 ⟨v, ss, rfl, ⟨hS, hlen⟩, hrow, hnil, hb⟩
  clear qc
  rcases hrow.2 with ⟨rfl, hz⟩ | ⟨gb, cap, cur, rfl, hbase, hgb, r1, r2, r3, r4⟩
  · have hss : ss = [] := List.eq_nil_of_length_eq_zero hz
    subst hss
    have qn := hide (AnyF.slices_SortFunc_none Tryz.sortF55 none 0 (.func (.func 30) #[] #[]) w1)
    have O := hide hrow
    have B := hide hb
    have K := hide (unhide KS [] hS)
    clear hrow hb hS hnil
    go_wp2_with fail
    refine (unhide qn).mono ?_
    rintro e w2 ⟨rfl, rfl⟩
    go_wp2_with fail
    go_ret
    exact ⟨.slice none 0 0, [], rfl, ⟨List.nodup_nil, unhide K, fun i j _ hj => absurd hj (Nat.not_lt_zero _)⟩, unhide O, unhide B⟩
  · have hmem := unhide KS ss hS
    have hsl : ss.length ≤ 1000000 := Nat.le_trans hlen (unhide HSZ)
    have qs := hide (sortAtomsN ss (fun a ha => unhide GS a ((hmem a).1 ha)) gb cap W.heap.size w1 hsl hrow)
    have F := hide (show ∀ l' : List AtomT, l'.Perm ss → l'.Nodup ∧ (∀ x, x ∈ l' ↔ S x) ∧ l'.length = ss.length from fun l' hp => ⟨hp.nodup_iff.2 hS.1, fun x => hp.mem_iff.trans (hmem x), hp.length_eq⟩)
    have B := hide hb
    clear hS hlen hrow hnil hb hgb r1 r2 r3 r4 hbase hmem hsl
    generalize ss.length = N at qs F
    go_wp2_with fail
    refine (unhide qs).mono ?_
    rintro e w2 ⟨rfl, l', hl'⟩
    have G := hide (unhide hl')
    clear hl' qs
    go_wp2_with fail
    go_ret
    obtain ⟨g1, g2, g3, g4⟩ := unhide G
    obtain ⟨f1, f2, f3⟩ := unhide F l' g1
    exact ⟨_, l', rfl, ⟨f1, f2, g2⟩, by rw [f3]; exact g3, (unhide B).trans g4⟩
end Go.Proofs.YtpfekkhnjaopdaaGreat.V
/- Heads: impl.isRef, goodHead, Head.isSlot; spec.l10GoodHead. -/
namespace Go.Proofs.YtpfekkhnjaopdaaGreat.V
set_option linter.unusedSimpArgs false
set_option linter.unusedVariables false
open Go.RowKit Go.Maps

abbrev empE : ByteArray := ⟨#[]⟩
theorem empE_iff {a : ByteArray} : a = empE ↔ a.toList = [] :=
  ⟨fun h => by rw [h, ByteArray.toList_eq], fun h => by
    rw [ByteArray.toList_eq] at h
    exact Go.WideShapes.bytes_inj (by rw [h])⟩

structure HeadT where
  k : Int
  x : Int
  n : Int
  t : ByteArray
  y : ByteArray
  ty : ByteArray
structure HeadT.Ok (h : HeadT) : Prop where
  n8 : -9223372036854775808 ≤ h.n
  n9 : h.n ≤ 9223372036854775807
  t9 : h.t.size ≤ maxLen
  y9 : h.y.size ≤ maxLen
  ty9 : h.ty.size ≤ maxLen
abbrev hAgg (h : HeadT) : Value := .agg #[.int .i64 h.k, .int .i64 h.x, .int .i64 h.n, .string h.t, .string h.y, .string h.ty]
def zHd (h : HeadT) : Prop := h.x = 0 ∧ h.n = 0 ∧ h.t = empE ∧ h.y = empE
def HeadP (h : HeadT) : Prop :=
  if h.k = 1 ∨ h.k = 5 ∨ h.k = 6 then zHd h ∧ h.ty = empE else if h.k = 2 ∨ h.k = 3 then h.x = 4 ∧ goodAtom h.x h.n h.t h.y = true ∧ h.ty = empE else if h.k = 4 then zHd h ∧ goodName h.ty = true else False

theorem isRefH_any (x n : Int) (t y : ByteArray) (w : World) (h9 : n ≤ 9223372036854775807) (ht : t.size ≤ maxLen) (hy : y.size ≤ maxLen) :
    Calls Tryz.prog 26 #[.agg #[.int .i64 x, .int .i64 n, .string t, .string y]] w fun e w' => RetB e (x = 4 ∧ goodAtom x n t y = true) ∧ Below w.heap.size w w' := by
  have q := hide (fun w => iGoodAtom_any x n t y w h9 ht hy)
  clear ht hy h9
  by_cases h : x = 4
  · subst h
    generalize goodAtom 4 n t y = G at *
    go_enter Tryz.func26, Tryz.ntmps26
    go_wp2_with fail
    refine (unhide q _).mono ?_
    rintro e w1 ⟨rfl, hb1⟩
    have B := hide hb1
    clear hb1
    go_wp2_with fail
    go_ret
    exact ⟨retB (by simp), bTr (bAl (Below.refl _ _) _) (unhide B)⟩
  · clear q
    have d : (x == 4) = false := by simpa using h
    go_enter Tryz.func26, Tryz.ntmps26
    go_wp2_with fail
    go_ret
    exact ⟨retB (by simp [h]), bAl (Below.refl _ _) _⟩

set_option maxRecDepth 20000 in
set_option maxHeartbeats 1000000 in
theorem goodHead_any (h : HeadT) (w : World) (ho : h.Ok) :
    Calls Tryz.prog 38 #[hAgg h] w fun e w' => RetB e (HeadP h) ∧ Below w.heap.size w w' := by
  have q1 := hide (fun w => isRefH_any h.x h.n h.t h.y w ho.n9 ho.t9 ho.y9)
  have q2 := hide (iGoodName_any h.ty ho.ty9)
  clear ho
  obtain ⟨k, x, n, t, y, ty⟩ := h
  simp only [HeadP, zHd] at *
  by_cases h1 : k = 1 ∨ k = 5 ∨ k = 6
  · simp only [if_pos h1]
    clear q1 q2
    rcases h1 with rfl | rfl | rfl
    all_goals go_enter Tryz.func38, Tryz.ntmps38
    all_goals go_wp2_with fail
    all_goals go_ret
    all_goals refine ⟨retB ?_, bAl (Below.refl _ _) _⟩
    all_goals simp only [empE_iff]
    all_goals simp_all
  by_cases h2 : k = 2 ∨ k = 3
  · simp only [if_neg h1, if_pos h2]
    clear q2 h1
    generalize goodAtom x n t y = G at *
    rcases h2 with rfl | rfl
    all_goals go_enter Tryz.func38, Tryz.ntmps38
    all_goals go_wp2_with (refine (unhide q1 _).mono ?_; rintro e w1 ⟨⟨b1, rfl, g1⟩, hb1⟩; replace g1 := hide g1; replace hb1 := hide hb1)
    all_goals go_ret
    all_goals (first | refine ⟨retB ?_, bAl (Below.refl _ _) _⟩ | refine ⟨retB ?_, bTr (bAl (Below.refl _ _) _) (unhide hb1)⟩)
    all_goals simp only [empE_iff]
    all_goals (try replace g1 := unhide g1)
    all_goals simp_all
  by_cases h4 : k = 4
  · simp only [if_neg h1, if_neg h2, if_pos h4]
    clear q1 h1 h2
    subst h4
    generalize goodName ty = G at *
    go_enter Tryz.func38, Tryz.ntmps38
    go_wp2_with (refine (unhide q2 _).mono ?_; rintro e w1 ⟨rfl, hb1⟩; replace hb1 := hide hb1)
    all_goals go_ret
    all_goals (first | refine ⟨retB ?_, bAl (Below.refl _ _) _⟩ | refine ⟨retB ?_, bTr (bAl (Below.refl _ _) _) (unhide hb1)⟩)
    all_goals simp only [empE_iff]
    all_goals simp_all
  · simp only [if_neg h1, if_neg h2, if_neg h4]
    simp only [not_or] at h1 h2
    obtain ⟨a1, a5, a6⟩ := h1
    obtain ⟨a2, a3⟩ := h2
    clear q1 q2
    go_enter Tryz.func38, Tryz.ntmps38
    go_wp2_with fail
    go_ret
    exact ⟨retB (b := false) (by simp), bAl (Below.refl _ _) _⟩

set_option maxRecDepth 20000 in
set_option maxHeartbeats 1000000 in
theorem l10GoodHead_any (h : HeadT) (sl : Bool) (w : World) (ho : h.Ok) :
    Calls Tryz.prog 36 #[hAgg h, .bool sl] w fun e w' => RetB e (HeadP h ∧ (sl = true ∨ ¬ (h.k = 5 ∨ h.k = 6))) ∧ Below w.heap.size w w' := by
  have q1 := hide (fun w => sGoodAtom_any h.x h.n h.t h.y w ho.n9 ho.t9 ho.y9)
  have q2 := hide (sGoodName_any h.ty ho.ty9)
  clear ho
  obtain ⟨k, x, n, t, y, ty⟩ := h
  simp only [HeadP, zHd] at *
  by_cases h1 : k = 1
  · subst h1
    clear q1 q2
    go_enter Tryz.func36, Tryz.ntmps36
    go_wp2_with fail
    all_goals go_ret
    all_goals refine ⟨retB ?_, bAl (Below.refl _ _) _⟩
    all_goals (try simp only [empE_iff])
    all_goals simp_all
  by_cases h5 : k = 5 ∨ k = 6
  · clear q1 q2 h1
    cases sl
    all_goals rcases h5 with rfl | rfl
    all_goals go_enter Tryz.func36, Tryz.ntmps36
    all_goals go_wp2_with fail
    all_goals go_ret
    all_goals refine ⟨retB ?_, bAl (Below.refl _ _) _⟩
    all_goals (try simp only [empE_iff])
    all_goals simp_all
  have n5 : (sl = true ∨ ¬ (k = 5 ∨ k = 6)) = True := by simp [h5]
  simp only [n5, and_true]
  have n1 : ¬ (k = 1 ∨ k = 5 ∨ k = 6) := by simp only [not_or] at h5 ⊢; exact ⟨h1, h5⟩
  simp only [if_neg n1]
  clear n5
  by_cases h2 : k = 2 ∨ k = 3
  · simp only [if_pos h2]
    clear q2 h1 h5 n1
    have R0 := hide (RowIs.new w #[.int .i64 k, .int .i64 x, .int .i64 n, .string t, .string y, .string ty] 43)
    by_cases hx : x = 4
    · subst hx
      generalize goodAtom 4 n t y = G at *
      rcases h2 with rfl | rfl
      all_goals go_enter Tryz.func36, Tryz.ntmps36
      all_goals go_wp2_with (refine (unhide q1 _).mono ?_; rintro e w1 ⟨rfl, hb1⟩; have c5 := ((unhide R0).keep hb1).at (o := 5) (v := .string ty) rfl; replace hb1 := hide hb1)
      all_goals go_ret
      all_goals refine ⟨retB ?_, bTr (bAl (Below.refl _ _) _) (unhide hb1)⟩
      all_goals (try simp only [empE_iff])
      all_goals simp_all
    · have d : (x == 4) = false := by simpa using hx
      rcases h2 with rfl | rfl
      all_goals go_enter Tryz.func36, Tryz.ntmps36
      all_goals go_wp2_with fail
      all_goals go_ret
      all_goals exact ⟨retB (b := false) (by simp [hx]), bAl (Below.refl _ _) _⟩
  by_cases h4 : k = 4
  · simp only [if_neg h2, if_pos h4]
    clear q1 h1 h2 h5 n1
    subst h4
    generalize goodName ty = G at *
    go_enter Tryz.func36, Tryz.ntmps36
    go_wp2_with (refine (unhide q2 _).mono ?_; rintro e w1 ⟨rfl, rfl⟩)
    all_goals go_ret
    all_goals refine ⟨retB ?_, bAl (Below.refl _ _) _⟩
    all_goals (try simp only [empE_iff])
    all_goals simp_all
  · simp only [if_neg h2, if_neg h4]
    simp only [not_or] at h5 h2
    obtain ⟨a5, a6⟩ := h5
    obtain ⟨a2, a3⟩ := h2
    clear q1 q2 n1
    go_enter Tryz.func36, Tryz.ntmps36
    go_wp2_with fail
    go_ret
    exact ⟨retB (b := false) (by simp), bAl (Below.refl _ _) _⟩
end Go.Proofs.YtpfekkhnjaopdaaGreat.V
