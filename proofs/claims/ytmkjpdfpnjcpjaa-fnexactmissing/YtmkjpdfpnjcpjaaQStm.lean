/- impl.timeVector's stamps. -/
import Derived.Test.YtmkjpdfpnjcpjaaQSrt
import Derived.Test.YtmkjpdfpnjcpjaaQSt
import Derived.OwnWalk
import Derived.Maps.AppendAt
namespace Go.Proofs.Ytmkjpdfpnjcpjaa
open Go.RowKit Go.Maps

theorem VecM.keepB {w w' : World} {b n B : Nat} {tv : Int → Int} (h : VecM w b n tv) (hb : Below B w w') (hlt : b < B) : VecM w' b n tv := by
  obtain ⟨D, ⟨es, clock, h1, h2⟩, hD⟩ := h
  exact ⟨D, ⟨es, clock, (hb.block b hlt).trans h1, h2⟩, hD⟩

theorem intKeys_facts {w : World} {R : Value → Option (DataW Unit × List MemPlace)} {b n : Nat} {D : DataW Unit} (h : w.ownsMap Try.prog 3 R b n D) :
    (intKeys D).Nodup ∧ ∀ a, a ∈ intKeys D ↔ (okI a ∧ Maps.has D (.int .i64 a) = true) := by
  obtain ⟨es, rfl, hk⟩ := h.keysOf
  have hk' : ∀ p ∈ es, ∃ x, p.1 = .int .i64 x ∧ okI x := fun p hp => by
    obtain ⟨v, hv⟩ := hk p hp
    obtain ⟨x, _, e, hw⟩ := Maps.keyOf_int_inv Try.underlying3 hv
    exact ⟨x, e, hw⟩
  obtain ⟨es', e', hpw⟩ := h.tidy lawI
  obtain rfl : es = es' := by simpa using e'
  refine ⟨?_, fun a => ?_⟩
  · show (es.map fun p => Go.intOf p.1).Nodup
    refine List.pairwise_map.2 (hpw.imp_of_mem fun {p q} hp' hq' hne e => hne ?_)
    obtain ⟨a, ha, _⟩ := hk' p hp'
    obtain ⟨b, hb, _⟩ := hk' q hq'
    rw [ha, hb] at e ⊢
    exact congrArg _ e
  · rw [has_eq, List.any_eq_true]
    show a ∈ es.map (fun p => Go.intOf p.1) ↔ _
    rw [List.mem_map]
    constructor
    · rintro ⟨p, hp', rfl⟩
      obtain ⟨x, hx, ho⟩ := hk' p hp'
      refine ⟨by rw [hx]; exact ho, p, hp', by rw [hx]; simp [Lit.sameKey, Go.intOf]⟩
    · rintro ⟨_, p, hp', hs⟩
      obtain ⟨x, hx, _⟩ := hk' p hp'
      rw [hx] at hs
      exact ⟨p, hp', by rw [hx]; simpa [Lit.sameKey, Go.intOf] using hs⟩

/-- The Whos of a vector, rising. -/
structure KsIs (tv : Int → Int) (ks : List Int) : Prop where
  ris : ks.Pairwise (· < ·)
  mem : ∀ a, a ∈ ks ↔ (okI a ∧ 0 < tv a)
theorem ksIs_of {tv : Int → Int} {D : DataW Unit} {w : World} {b n : Nat} (ho : w.ownsMap Try.prog 3 (plainElem Try.prog 3) b n D) (hD : ∀ a, okI a → D.atKey (.int .i64 a) (.lit (.int .i64 0)) = .lit (.int .i64 (tv a))) (hP : ∀ a, okI a → Maps.has D (.int .i64 a) = true → 0 < tv a)
    {ss : List Int} (h : ss.Perm (intKeys D)) : KsIs tv (ss.mergeSort (fun x y => decide (x ≤ y))) := by
  obtain ⟨hn, hm⟩ := intKeys_facts ho
  have hp := (List.mergeSort_perm ss (fun x y => decide (x ≤ y))).trans h
  refine ⟨?_, fun a => ?_⟩
  · have h1 := List.pairwise_mergeSort (le := fun x y : Int => decide (x ≤ y)) (fun a b c h1 h2 => by simp only [decide_eq_true_eq] at *; omega) (fun a b => by simp only [Bool.or_eq_true, decide_eq_true_eq]; omega) ss
    have h2 : (ss.mergeSort (fun x y => decide (x ≤ y))).Nodup := hp.nodup_iff.2 hn
    refine (h1.and h2).imp fun {a b} h => ?_
    have := of_decide_eq_true h.1
    have := h.2
    omega
  · rw [hp.mem_iff, hm]
    constructor
    · rintro ⟨h1, h2⟩; exact ⟨h1, hP a h1 h2⟩
    · rintro ⟨h1, h2⟩
      refine ⟨h1, ?_⟩
      cases hh : Maps.has D (.int .i64 a)
      · have h3 := hD a h1
        rw [Maps.atKey_of_not_has hh] at h3
        simp at h3
        omega
      · rfl

theorem own_ints {w : World} {base n : Nat} {v : Value} {l : List Int} (hn : n = l.length) (h : w.ownsRow base 3 1 v n (l.map (Value.int .i64))) : ∃ a cap, v = .slice a n cap ∧ (l = [] ∨ ∃ g, a = some ⟨g, 0, none⟩ ∧ g < w.heap.size ∧ ∀ i (hi : i < l.length), w.cell? ⟨g, i, none⟩ = some (.int .i64 l[i])) := by
  rcases h.2 with ⟨rfl, e⟩ | ⟨g, cap, cur, rfl, _, hh, _, _, hsz, htk⟩
  · have : l = [] := List.length_eq_zero_iff.1 (by omega)
    subst this
    exact ⟨none, 0, by rw [e], .inl rfl⟩
  · have hr : RowIs w g cur 3 := hh
    refine ⟨_, _, rfl, .inr ⟨g, rfl, hr.lt, fun i hi => ?_⟩⟩
    rw [hr.cell]
    have hu : (l.map (Value.int .i64))[i]? = some (.int .i64 l[i]) := by simp [hi]
    rw [← htk, List.getElem?_take] at hu
    rw [← Array.getElem?_toList]
    split at hu
    · exact hu
    · cases hu

def prs (tv : Int → Int) (ks : List Int) : List (Int × Int) := ks.map fun a => (tv a, a)
theorem prs_snoc (tv : Int → Int) (ks : List Int) (k : Nat) (h : k < ks.length) : prs tv (ks.take (k + 1)) = prs tv (ks.take k) ++ [(tv ks[k], ks[k])] := by
  unfold prs
  rw [List.take_succ_eq_append_getElem h, List.map_append]; rfl
theorem prs_len (tv : Int → Int) (ks : List Int) : (prs tv ks).length = ks.length := by simp [prs]

theorem own_base {w : World} {base base' e size n : Nat} {v : Value} {xs : List Value} (h : w.ownsRow base e size v n xs) (hb : base' ≤ base) : w.ownsRow base' e size v n xs := by
  refine ⟨h.1, h.2.imp_right ?_⟩
  rintro ⟨g, cap, cur, e', h1, r⟩
  exact ⟨g, cap, cur, e', Nat.le_trans hb h1, r⟩

set_option maxRecDepth 100000 in
set_option maxHeartbeats 2000000 in
theorem stamps_any (b n : Nat) (tv : Int → Int) (w : World) (hv : VecM w b n tv) (hn : n ≤ 1000) :
    Calls Try.prog 39 #[.map (some b)] w fun e w' => (∃ v ks, e = .returned v ∧ KsIs tv ks ∧ ks.length ≤ 1000 ∧ w'.ownsRow w.heap.size 41 2 v (prs tv ks).length (stsV (prs tv ks))) ∧ Below w.heap.size w w' := by
  obtain ⟨i0, hi, hz0, hz1, hz2⟩ := info_parts info_stamp
  have HV := hide hv
  have hblt := hv.lt
  obtain ⟨D, hown, hD, hP⟩ := hv
  have hsz := hown.size_le
  have qk := hide (fun W => mapsKeys_any (some b) W)
  have qs := hide (sortedKeys_any b n D _ w hown (by unfold maxLen; omega) (by omega))
  have KF := hide (fun (ss : List Int) (h : ss.Perm (intKeys D)) => ksIs_of hown hD hP h)
  have LF := hide (fun (ss : List Int) (h : ss.Perm (intKeys D)) => show ss.length ≤ 1000 by
    rw [h.length_eq]
    obtain ⟨es, rfl, _⟩ := hown.keysOf
    show (es.map fun p => Go.intOf p.1).length ≤ 1000
    rw [List.length_map]
    have : Maps.size (.map es : DataW Unit) = es.length := rfl
    omega)
  clear hown hD hP hsz
  go_enter Try.func39, Try.ntmps39
  go_wp2_with fail
  refine (unhide qk _).mono ?_
  rintro e w1 ⟨rfl, rfl⟩
  go_wp2_with fail
  refine (unhide qs).mono ?_
  rintro e w2 ⟨v, ss, rfl, hperm, hrow, _, hb2⟩
  have KS := hide (unhide KF ss hperm)
  have LS := unhide LF ss hperm
  have hkl : (ss.mergeSort (fun x y => decide (x ≤ y))).length = ss.length := List.length_mergeSort ss
  generalize hks : ss.mergeSort (fun x y => decide (x ≤ y)) = ks at hrow KS hkl
  obtain ⟨a, cap, rfl, hcell⟩ := own_ints hkl.symm hrow
  have B2 := hide (bTr (bAl (Below.refl w.heap.size w) (.cells #[.map (some b)] 58)) hb2)
  have hb9 : b < w2.heap.size := Nat.lt_of_lt_of_le hblt (unhide B2).size
  have HV2 := hide ((unhide HV).keepB (unhide B2) hblt)
  have HCe := hide hcell
  have HKL := hide hkl
  clear hks hperm hrow hb2 KF LF qs qk HV hcell
  generalize ss.length = N at HKL LS
  clear hkl
  go_wp2_with fail
  go_loopw [3, 10] (fun v i w' => ∃ k : Nat, k ≤ N ∧ i = .int .i64 k ∧ Hid (w'.ownsRow w2.heap.size 41 2 v (prs tv (ks.take k)).length (stsV (prs tv (ks.take k)))) ∧ Hid (Below w2.heap.size w2 w')) (fun _ i _ => N - (Go.RowKit.intOf i).toNat)
  case atStart => exact ⟨0, Nat.zero_le _, rfl, hide (World.ownsRow_nil _ _ _ _), hide (Below.refl _ _)⟩
  case round =>
    obtain ⟨k, hk, rfl, hO, hB⟩ := hrel
    by_cases hlt : k < N
    · have hk' : k < ks.length := by rw [unhide HKL]; exact hlt
      rcases unhide HCe with rfl | ⟨g, rfl, hg, hc⟩
      · exact absurd hk' (Nat.not_lt_zero _)
      have ck := cellB (unhide hB) hg (hc k hk')
      have oS : okI ks[k] := (((unhide KS).mem _).1 (List.getElem_mem hk')).1
      have eP := hide (prs_snoc tv ks k hk')
      have HVr := hide ((unhide HV2).keepB (unhide hB) hb9)
      have lnP : (prs tv (ks.take k)).length = k := by rw [prs_len, List.length_take]; omega
      generalize prs tv (ks.take k) = V at hO eP lnP
      have HOS := hide oS
      clear hc oS
      generalize ks[k] = S at ck eP HOS
      go_wp2_with (first
        | (at_lookup; refine wpList_look_vec _ rfl _ _ rfl b n tv rfl (unhide HVr) S rfl (unhide HOS) ?_; intro hwc)
        | (at_builtin; refine wpList_append_own _ rfl _ _ 30 rfl w2.heap.size 41 i0 _ 2 16 Try.underlying30 hi hz0 hz1 hz2 rfl (by decide) _ _ _ rfl ((unhide hO).alloc _) ⟨_, 0, none⟩ 1 1 [.int .i64 (tv S), .int .i64 S] rfl rfl (cell_two_at _ _ rfl _ _ _) (fun x hx => by simp at hx; rcases hx with rfl | rfl <;> rfl) (by unfold maxLen; omega) (by omega) (by have := (unhide hB).size; simp; omega) ?_; intro u5 x5 hown5 hgrow5 _; have G5 := hide hown5; have B5 := hide (below_append (unhide hB) (Nat.le_refl _) (unhide hO) hgrow5); clear hown5 hgrow5))
      exact ⟨⟨k + 1, by omega, by go_num, hide (by rw [unhide eP, stsV_snoc, List.length_append]; exact unhide G5), B5⟩, by simp [Go.RowKit.intOf]; omega⟩
    · have e : k = ks.length := by rw [unhide HKL]; omega
      have O9 := hide (show wr.ownsRow w.heap.size 41 2 _ (prs tv ks).length (stsV (prs tv ks)) by have := unhide hO; rw [e, List.take_length] at this; exact own_base this (unhide B2).size)
      have B9 := hide (bTr (unhide B2) (unhide hB))
      clear e
      go_wp2_with fail
      go_ret
      exact ⟨⟨_, ks, rfl, unhide KS, by rw [unhide HKL]; exact LS, unhide O9⟩, unhide B9⟩
end Go.Proofs.Ytmkjpdfpnjcpjaa
