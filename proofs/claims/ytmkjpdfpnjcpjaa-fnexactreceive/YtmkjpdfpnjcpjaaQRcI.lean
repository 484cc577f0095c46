/- impl.Receive. -/
import Derived.Test.YtmkjpdfpnjcpjaaQRcP
namespace Go.Proofs.Ytmkjpdfpnjcpjaa
open Go.RowKit Go.Maps

def RcG (l more : List DcT) : Prop := LogG l ∧ more.length ≤ 1000 ∧ more.all chB = true
def RP (l more r : List DcT) : Prop := (¬ RcG l more ∧ r = []) ∨ (RcG l more ∧ ((200 < (recv l more).length ∧ r = []) ∨ ((recv l more).length ≤ 200 ∧ r = recv l more)))
theorem RP.uniq {l more r r' : List DcT} (h : RP l more r) (h' : RP l more r') : r = r' := by
  rcases h with ⟨n, e⟩ | ⟨g, h⟩ <;> rcases h' with ⟨n', e'⟩ | ⟨g', h'⟩
  · exact e.trans e'.symm
  · exact absurd g' n
  · exact absurd g n'
  · rcases h with ⟨h1, e⟩ | ⟨h1, e⟩ <;> rcases h' with ⟨h2, e'⟩ | ⟨h2, e'⟩
    · exact e.trans e'.symm
    · omega
    · omega
    · exact e.trans e'.symm
theorem RP.len {l more r : List DcT} (h : RP l more r) : r.length ≤ 1000 := by
  rcases h with ⟨_, e⟩ | ⟨_, ⟨_, e⟩ | ⟨h, e⟩⟩
  · rw [e]; exact Nat.zero_le _
  · rw [e]; exact Nat.zero_le _
  · rw [e]; omega

theorem dcsV_len (l : List DcT) : (dcsV l).length = l.length * 9 := by
  induction l with
  | nil => rfl
  | cons c l ih => rw [show dcsV (c :: l) = dcL c ++ dcsV l by simp [dcsV], List.length_append, ih, show (dcL c).length = 9 from rfl, List.length_cons]; omega
theorem dcsV_one (l : List DcT) : ∀ u ∈ dcsV l, u.oneCell' = true := by
  intro u hu
  unfold dcsV at hu
  obtain ⟨c, _, hc⟩ := List.mem_flatMap.1 hu
  exact dcL_one c u hc
theorem dcsV_inv (l : List DcT) (j : Nat) (u : Value) (h : (dcsV l)[j]? = some u) : ∃ hi : j / 9 < l.length, (dcL (l[j / 9]'hi))[j % 9]? = some u := by
  have hj := (List.getElem?_eq_some_iff.1 h).1
  rw [dcsV_len] at hj
  have hi : j / 9 < l.length := by omega
  refine ⟨hi, ?_⟩
  have hm : j % 9 < (dcL (l[j / 9]'hi)).length := by show j % 9 < 9; omega
  have := dcsV_get l (j / 9) hi (j % 9) _ (List.getElem?_eq_getElem hm)
  rw [show j / 9 * 9 + j % 9 = j by omega, h] at this
  rw [List.getElem?_eq_getElem hm]
  exact this.symm
theorem slc_news {w : World} {ad : Addr} {len : Nat} {l : List DcT} (h : SlC w (some ad) len l) : ∀ j u, (dcsV l)[j]? = some u → w.cell? (ad.add j) = some u := by
  intro j u hu
  obtain ⟨hi, hv⟩ := dcsV_inv l j u hu
  obtain ⟨b, off, e, hr⟩ := h.at (k := j / 9) (by rw [h.1]; exact hi)
  cases e
  rw [addr_plus]
  have h9 : j % 9 < 9 := Nat.mod_lt _ (by omega)
  have ej : off + j = off + j / 9 * 9 + j % 9 := by omega
  rw [ej]
  have hc : j % 9 = 0 ∨ j % 9 = 1 ∨ j % 9 = 2 ∨ j % 9 = 3 ∨ j % 9 = 4 ∨ j % 9 = 5 ∨ j % 9 = 6 ∨ j % 9 = 7 ∨ j % 9 = 8 := by omega
  rcases hc with e | e | e | e | e | e | e | e | e <;> rw [e] at hv ⊢ <;> simp [dcL] at hv <;> subst hv
  · exact hr.c0 _ hi
  · exact hr.c1 _ hi
  · exact hr.c2 _ hi
  · exact hr.c3 _ hi
  · exact hr.c4 _ hi
  · exact hr.c5 _ hi
  · exact hr.c6 _ hi
  · exact hr.c7 _ hi
  · exact hr.c8 _ hi

set_option maxRecDepth 100000 in
set_option maxHeartbeats 2000000 in
theorem iReceive_any (a : Option Addr) (len cap : Nat) (l : List DcT) (a' : Option Addr) (len' cap' : Nat) (l' : List DcT) (w : World) (hl : len ≤ maxLen) (hs : SlC w a len l) (hok : ∀ q ∈ l, DcT.Ok q) (hl' : len' ≤ maxLen) (hs' : SlC w a' len' l') (hok' : ∀ q ∈ l', DcT.Ok q) :
    Calls Try.prog 10 #[.slice a len cap, .slice a' len' cap'] w fun e w' => (∃ v r, e = .returned v ∧ RP l l' r ∧ w'.ownsRow w.heap.size 54 9 v r.length (dcsV r)) ∧ Below w.heap.size w w' := by
  have q1 := hide (iGoodLog_any a len cap l w hl hs hok)
  have q2 := hide (fun w hs => goodChanges_any a' len' cap' 1000 l' w hl' hs hok')
  have HS := hide hs
  have HS' := hide hs'
  have hll := hide hs.1
  have hll' := hide hs'.1
  have hgG : Hid ((decide ((len' : Int) ≤ 1000) && l'.all chB) = true ↔ (l'.length ≤ 1000 ∧ l'.all chB = true)) := hide (by
    rw [hs'.1]; simp only [Bool.and_eq_true, decide_eq_true_eq]
    exact and_congr_left fun _ => by omega)
  generalize (decide ((len' : Int) ≤ 1000) && l'.all chB) = T at q2 hgG
  clear hs hok hl hs' hok' hl'
  go_enter Try.func10, Try.ntmps10
  go_wp2_with fail
  refine (unhide q1).mono ?_
  rintro e w1 ⟨⟨t1, rfl, ht1⟩, hb1⟩
  have B1 := hide hb1
  replace HS := hide ((unhide HS).keep hb1)
  replace HS' := hide ((unhide HS').keep hb1)
  have HT1 := hide ht1
  clear hb1 q1 ht1
  cases t1
  · have no : Hid (RP l l' []) := hide (.inl ⟨fun h => (by have := (unhide HT1).2 h.1; cases this), rfl⟩)
    go_wp2_with fail
    go_ret
    exact ⟨⟨_, [], rfl, unhide no, World.ownsRow_nil _ _ _ _⟩, unhide B1⟩
  have LG := hide ((unhide HT1).1 rfl)
  clear HT1
  go_wp2_with fail
  refine (unhide q2 _ (unhide HS')).mono ?_
  rintro e w2 ⟨rfl, hb2⟩
  have B2 := hide (bTr (unhide B1) hb2)
  replace HS := hide ((unhide HS).keep hb2)
  replace HS' := hide ((unhide HS').keep hb2)
  clear hb2 q2 B1
  cases T
  · have no : Hid (RP l l' []) := hide (.inl ⟨fun h => (by have := (unhide hgG).2 h.2; cases this), rfl⟩)
    go_wp2_with fail
    go_ret
    exact ⟨⟨_, [], rfl, unhide no, World.ownsRow_nil _ _ _ _⟩, unhide B2⟩
  have LG' := hide ((unhide hgG).1 (by first | rfl | trivial))
  clear hgG
  have hlen : len ≤ 200 := by have := (unhide LG).1; rw [← unhide hll] at this; exact this
  have hlen' : len' ≤ 1000 := by have := (unhide LG').1; rw [← unhide hll'] at this; exact this
  have ok1 : ∀ i (h : i < l.length), (okI l[i].t ∧ 0 < l[i].t) ∧ okI l[i].o := fun i hi => by
    have := ch_range (unhide LG).2.1 i hi
    exact ⟨⟨(okI_iff _).2 (by omega), by omega⟩, (okI_iff _).2 (by omega)⟩
  have ok2 : ∀ i (h : i < l'.length), (okI l'[i].t ∧ 0 < l'[i].t) ∧ okI l'[i].o := fun i hi => by
    have := ch_range (unhide LG').2 i hi
    exact ⟨⟨(okI_iff _).2 (by omega), by omega⟩, (okI_iff _).2 (by omega)⟩
  have qc := hide (changeLogOf_cm a len cap l w2 (by omega) (unhide HS) ok1)
  have qt := hide (fun bv bc tv0 m0 W hB h1 h2 hne hv hc hi => take_cm bv bc len len tv0 m0 a' len' cap' l' w2 W hB h1 h2 hne hv hc hi (by omega) (by omega) (by omega) (unhide HS') ok2)
  have ORD := hide (show IsOrd (takeM (takeM (fun _ => none) l) l') (recv l l') ∧ MOk (takeM (takeM (fun _ => none) l) l') by
    obtain ⟨o1, o2⟩ := log_ord (unhide LG)
    refine take_ord l' _ l o1 o2 (fun c hc => ?_)
    obtain ⟨i, hi, rfl⟩ := List.mem_iff_getElem.1 hc
    exact ⟨(ok2 i hi).1.1, (ok2 i hi).2⟩)
  have INV := hide (show ∀ x, (takeM (fun _ => none) l x).isSome = true → x.1 ≤ takeV (fun _ => 0) l x.2 from fun x hx => ?_)
  rotate_left
  · obtain ⟨o1, o2⟩ := log_ord (unhide LG)
    obtain ⟨c, hc⟩ := Option.isSome_iff_exists.1 hx
    obtain ⟨rfl, _⟩ := o2 x c hc
    have hm := (o1.mem c).2 hc
    exact takeV_up l _ c hm
  clear ok1 ok2
  have LOK := hide (recv_len l l')
  go_wp2_with fail
  refine (unhide qc).mono ?_
  rintro e w3 ⟨⟨bv, bc, rfl, ⟨hv1, hc1, hne⟩, hv, hc⟩, hb3⟩
  have hvlt := hv.lt
  have hclt := hc.lt
  obtain ⟨W4, hW4⟩ : ∃ W', W' = w3.alloc (.cells #[.map (some bv), .map (some bc)] 61) := ⟨_, rfl⟩
  have HW4 := hide hW4
  have R4 := hide (show RowIs W4 w3.heap.size #[.map (some bv), .map (some bc)] 61 by rw [hW4]; exact RowIs.new _ _ _)
  have b24 : Below w2.heap.size w2 W4 := by rw [hW4]; exact bAl hb3 _
  have B4 := hide (bTr (unhide B2) b24)
  have qt' := hide (unhide qt bv bc _ _ W4 b24 hv1 hc1 hne (by rw [hW4]; exact hv.kept (World.grownBy_alloc _ _ none) (by simp)) (by rw [hW4]; exact hc.kept (World.grownBy_alloc _ _ none) (by simp)) (unhide INV))
  have nb : Hid (w3.heap.size ≠ bv ∧ w3.heap.size ≠ bc) := hide (by omega)
  have hz4 : Hid (w.heap.size ≤ bv ∧ w.heap.size ≤ bc) := hide (by have := (unhide B2).size; omega)
  clear hb3 hv hc b24 hW4 qt qc INV hv1 hc1 hne hvlt hclt HS HS'
  have c0 := (unhide R4).at (o := 0) (v := .map (some bv)) rfl
  have c1 := (unhide R4).at (o := 1) (v := .map (some bc)) rfl
  go_wp2_with fail
  rw [← unhide HW4]
  refine (unhide qt').mono ?_
  rintro e w5 ⟨rfl, hk5, m, tv, hv5, hc5, htk⟩
  have R5 := hk5.row (unhide R4) (unhide nb).1 (unhide nb).2
  have B5 := hide (hk5.below (unhide B4) (unhide B4).size (unhide hz4).1 (unhide hz4).2)
  have em : m = takeM (takeM (fun _ => none) l) l' := by rw [htk.hm, unhide hll', List.take_length]
  rw [em] at hc5
  have C5 := hide hc5
  obtain ⟨D, hown, hD⟩ := hc5
  have hsz := size_ord hown hD (unhide ORD).2 (unhide ORD).1
  have HOW := hide hown
  have HSZ := hide hsz
  clear htk hk5 em hD hown hsz hv5 m tv qt' R4 B4 B2 c0 c1 HW4
  have d0 := R5.at (o := 0) (v := .map (some bv)) rfl
  have d1 := R5.at (o := 1) (v := .map (some bc)) rfl
  clear R5
  have qo := hide (inOrder_cm bv bc (len + len') _ w5 (unhide C5) (by omega) (unhide ORD).2)
  have hRL : (recv l l').length ≤ 1200 := by have := unhide LOK; rw [← unhide hll, ← unhide hll'] at this; omega
  by_cases hq : 200 < ((recv l l').length : Int)
  · have yes : Hid (RP l l' []) := hide (.inr ⟨⟨unhide LG, unhide LG'⟩, .inl ⟨by omega, rfl⟩⟩)
    go_wp2_with (at_len; refine wpList_len_own _ rfl _ 59 rfl 41 54 Try.underlying59 hvR bc _ D rfl (unhide HOW) ?_; rw [unhide HSZ])
    go_ret
    exact ⟨⟨_, [], rfl, unhide yes, World.ownsRow_nil _ _ _ _⟩, unhide B5⟩
  · have yes : Hid (RP l l' (recv l l')) := hide (.inr ⟨⟨unhide LG, unhide LG'⟩, .inr ⟨by omega, rfl⟩⟩)
    go_wp2_with (at_len; refine wpList_len_own _ rfl _ 59 rfl 41 54 Try.underlying59 hvR bc _ D rfl (unhide HOW) ?_; rw [unhide HSZ])
    refine (unhide qo).mono ?_
    rintro e w6 ⟨⟨v, L, rfl, hL, _, ho⟩, hb6⟩
    obtain rfl := hL.uniq (unhide ORD).1
    have O6 := hide (own_base2 ho (unhide B5).size)
    have B6 := hide (bTr (unhide B5) hb6)
    clear ho hb6 hL d0 d1 qo
    go_wp2_with fail
    go_ret
    exact ⟨⟨v, _, rfl, unhide yes, unhide O6⟩, unhide B6⟩
end Go.Proofs.Ytmkjpdfpnjcpjaa
