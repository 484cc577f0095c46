/- Documents: docOf and GoodDoc, by the program. -/
import Derived.Test.YtdhpfhpegaekpaaDoorELg
namespace Go.Proofs.YtdhpfhpegaekpaaDoor.V
set_option linter.unusedSimpArgs false
set_option linter.unusedVariables false
set_option maxRecDepth 20000
open Go.RowKit

theorem own_setD {w : World} {base e size n b o : Nat} {v u : Value} {xs : List Value} (h : w.ownsRow base e size v n xs) (hb : b < base) : (w.setCell ⟨b, o, none⟩ u).ownsRow base e size v n xs := by
  refine ⟨h.1, h.2.imp_right ?_⟩
  rintro ⟨g, cap, cur, e1, h1, hh, r⟩
  exact ⟨g, cap, cur, e1, h1, (heap_setCell_other w ⟨b, o, none⟩ g u (show g ≠ b by omega)).trans hh, r⟩
theorem own_loD {w : World} {base base' e size n : Nat} {v : Value} {xs : List Value} (h : w.ownsRow base e size v n xs) (hb : base' ≤ base) : w.ownsRow base' e size v n xs := by
  refine ⟨h.1, h.2.imp_right ?_⟩
  rintro ⟨g, cap, cur, e1, h1, r⟩
  exact ⟨g, cap, cur, e1, Nat.le_trans hb h1, r⟩
/-- What docOf answers: the document with the parents, where it is good. -/
def DocO (w : World) (h : Hd) (xs : List ElemT) (e : Ending) (w' : World) : Prop :=
  (¬ GDoc xs ∧ ∃ v1 a n c, e = .returned (.tuple #[.agg #[v1, .slice a n c], .bool false]) ∧ (v1 = .slice none 0 0 ∨ v1 = .slice h.a h.len h.cap)) ∨
  (GDoc xs ∧ ∃ ps D v, e = .returned (.tuple #[.agg #[.slice h.a h.len h.cap, v], .bool true]) ∧ Steps (ksOf xs) 0 [1] xs.length [] D ∧ ParD ps D ∧ ps.length = xs.length ∧ w'.ownsRow w.heap.size 3 1 v ps.length (ps.map iV))
set_option maxHeartbeats 4000000 in
theorem docOf_any (h : Hd) (l : List ElemE) (w : World) (hl : l.length ≤ maxLen) (hs : SqElemE w 0 h l) (hn : ∀ x ∈ l, ElemN x.t) :
    Calls Tryd.prog 28 #[.slice h.a h.len h.cap] w fun e w' => DocO w h (l.map (·.t)) e w' ∧ Below w.heap.size w w' := by
  obtain ⟨W1, hW1⟩ : ∃ W, W = w.alloc (.cells #[.slice none 0 0, .slice none 0 0] 56) := ⟨_, rfl⟩
  have b1 : Below w.heap.size w W1 := by rw [hW1]; exact bAl (Below.refl _ _) _
  have R1 := hide (show RowIs W1 w.heap.size #[.slice none 0 0, .slice none 0 0] 56 by rw [hW1]; exact RowIs.new _ _ _)
  have HW1 := hide hW1.symm
  have HS1 := hide (hs.keep b1)
  have B1 := hide b1
  have qg := hide (goodList_elm (fun x => EG x.t) 60 h l W1 hl (unhide HS1) (fun x hx w' hb => isGood_any x w' (hn x hx) (((unhide HS1).keep hb).2.2 x hx)))
  clear hW1 b1 hs
  go_enter Tryd.func28, Tryd.ntmps28
  go_upto_region 1 with fail
  refine wp_worldD (unhide HW1) ?_
  clear HW1
  go_wp2_with fail
  refine (unhide qg).mono ?_
  rintro e w2 ⟨⟨b, rfl, hb⟩, bb⟩
  have B2 := hide (bTr (unhide B1) bb)
  have R2 := hide ((unhide R1).keep bb)
  have S2 := hide ((unhide HS1).keep bb)
  clear bb qg R1 B1 HS1
  cases b with
  | false =>
    have no := hide (show ¬ GDoc (l.map (·.t)) from fun g => by
      have := hb.2 ⟨by have := g.1; rw [List.length_map] at this; omega, fun x hx => g.2.1 _ (List.mem_map.2 ⟨x, hx, rfl⟩)⟩
      cases this)
    have k0 := (unhide R2).at (o := 0) (v := .slice none 0 0) rfl
    have k1 := (unhide R2).at (o := 1) (v := .slice none 0 0) rfl
    have f0 := (unhide R2).froz 0
    have f1 := (unhide R2).froz 1
    have kz := (unhide R2).lt
    clear hb
    go_wp2_with fail
    refine bodyPost_ret (v := .tuple #[.agg #[.slice none 0 0, .slice none 0 0], .bool false]) (by simp [results, Tryd.results28, go_sem, k0, k1]) rfl ⟨.inl ⟨unhide no, _, _, _, _, rfl, .inl rfl⟩, ?_⟩
    repeat (first | exact unhide B2 | refine Below.setCell ?_ (by simp) _ | refine Below.drew ?_)
  | true =>
    obtain ⟨h60, hall⟩ := hb.1 (by trivial)
    have HALL := hide hall
    have h60' : l.length ≤ 60 := by omega
    have qp := hide (parentsOf_any h l w2 h60' (unhide S2) (fun x hx => (hall x hx).k))
    have B2s := hide (unhide B2).size
    clear hb hall
    go_wp2_with fail
    refine (unhide qp).mono ?_
    rintro e w3 ⟨hp, bb⟩
    have B3 := hide (bTr (unhide B2) bb)
    have R3 := hide ((unhide R2).keep bb)
    clear bb qp
    have k0 := (unhide R3).at (o := 0) (v := .slice none 0 0) rfl
    have k1 := (unhide R3).at (o := 1) (v := .slice none 0 0) rfl
    have f0 := (unhide R3).froz 0
    have f1 := (unhide R3).froz 1
    have kz := (unhide R3).lt
    rcases hp with ⟨hno, a, n, c, rfl⟩ | ⟨ps, D, v, rfl, hst, hpd, hpl, how⟩
    · have no := hide (show ¬ GDoc (l.map (·.t)) from fun g => hno (by obtain ⟨D, h1, _⟩ := g.2.2; exact ⟨D, h1⟩))
      clear hno
      go_wp2_with fail
      refine bodyPost_ret (v := .tuple #[.agg #[.slice h.a h.len h.cap, .slice a n c], .bool false]) (by simp [results, Tryd.results28, go_sem, k0, k1]) rfl ⟨.inl ⟨unhide no, _, _, _, _, rfl, .inr rfl⟩, ?_⟩
      repeat (first | exact unhide B3 | refine Below.setCell ?_ (by simp) _ | refine Below.drew ?_)
    · obtain ⟨pa, pc, rfl, _⟩ := own_form1 how
      have HST := hide hst
      have HPD := hide hpd
      have HPL := hide hpl
      have HOW := hide how
      clear hst hpd hpl how
      have h1 : 1 ≤ ps.length := by
        rw [unhide HPL]
        rcases Nat.eq_zero_or_pos (l.map (·.t)).length with e | e
        · have q := unhide HST
          rw [e] at q
          have := q.same.1
          cases this
        · exact e
      have qd := hide (deepest_any _ _ ps D w3 h1 (by rw [unhide HPL, List.length_map]; exact h60') (unhide HPD) (unhide HOW))
      clear h1
      go_wp2_with fail
      refine (unhide qd).mono ?_
      rintro e w4 ⟨rfl, bb⟩
      have B4 := hide (bTr (unhide B3) bb)
      have R4 := hide ((unhide R3).keep bb)
      have O4 := hide (own_kD (unhide HOW) bb)
      clear bb qd k0 k1 f0 f1 kz
      have k0 := (unhide R4).at (o := 0) (v := .slice none 0 0) rfl
      have k1 := (unhide R4).at (o := 1) (v := .slice none 0 0) rfl
      have f0 := (unhide R4).froz 0
      have f1 := (unhide R4).froz 1
      have kz := (unhide R4).lt
      have iff : GDoc (l.map (·.t)) ↔ maxD D ≤ 12 := by
        rw [maxD_le]
        constructor
        · rintro ⟨_, _, D2, g1, g2⟩
          obtain ⟨D3, g3, g4⟩ := (unhide HST).det g1 (Nat.le_refl _)
          have := g3.same.2
          rw [this, List.append_nil] at g4
          rw [← g4]; exact g2
        · intro g
          exact ⟨by rw [List.length_map]; exact h60', fun y hy => by obtain ⟨x, hx, rfl⟩ := List.mem_map.1 hy; exact unhide HALL x hx, D, unhide HST, g⟩
      have IFF := hide iff
      clear iff
      generalize maxD D = M at *
      by_cases hM : M ≤ 12
      · have d1 : (M : Int) ≤ 12 := by omega
        have yes := hide ((unhide IFF).2 hM)
        clear hM
        go_wp2_with fail
        refine bodyPost_ret (v := .tuple #[.agg #[.slice h.a h.len h.cap, .slice pa ps.length pc], .bool true]) (by simp [results, Tryd.results28, go_sem, k0, k1]) rfl ⟨.inr ⟨unhide yes, ps, D, _, rfl, unhide HST, unhide HPD, unhide HPL, ?_⟩, ?_⟩
        · have hw := (unhide R2).lt
          exact own_loD (own_setD (own_setD (unhide O4) hw) hw) (unhide B2s)
        · repeat (first | exact unhide B4 | refine Below.setCell ?_ (by simp) _ | refine Below.drew ?_)
      · have d1 : ¬ (M : Int) ≤ 12 := by omega
        have no := hide (fun g => hM ((unhide IFF).1 g))
        clear hM
        go_wp2_with fail
        refine bodyPost_ret (v := .tuple #[.agg #[.slice h.a h.len h.cap, .slice pa ps.length pc], .bool false]) (by simp [results, Tryd.results28, go_sem, k0, k1]; omega) rfl ⟨.inl ⟨unhide no, _, _, _, _, rfl, .inr rfl⟩, ?_⟩
        repeat (first | exact unhide B4 | refine Below.setCell ?_ (by simp) _ | refine Below.drew ?_)
set_option maxHeartbeats 1000000 in
theorem iGoodDoc_n (h : Hd) (xs : List ElemT) (w : World) (hl : xs.length ≤ maxLen) (hs : SqElem w 0 h xs) (hn : ∀ x ∈ xs, ElemN x) :
    Calls Tryd.prog 19 #[.slice h.a h.len h.cap] w fun e w' => RetB e (GDoc xs) ∧ Below w.heap.size w w' := by
  obtain ⟨l, rfl, hs⟩ := hs
  have q := hide (docOf_any h l w (by simpa using hl) hs (fun x hx => hn _ (List.mem_map.2 ⟨x, hx, rfl⟩)))
  clear hl hs hn
  go_enter Tryd.func19, Tryd.ntmps19
  go_wp2_with fail
  refine (unhide q).mono ?_
  rintro e w2 ⟨(⟨no, v1, a, n, c, rfl, hv⟩ | ⟨yes, ps, D, v, rfl, _, _, _, how⟩), bb⟩
  · have NO := hide no
    obtain ⟨a1, n1, c1, rfl⟩ : ∃ a n c, v1 = .slice a n c := by rcases hv with e | e <;> exact ⟨_, _, _, e⟩
    clear no hv q
    go_wp2_with fail
    go_ret
    exact ⟨retB (b := false) ⟨fun h => (by cases h), fun h => absurd h (unhide NO)⟩, bAl bb _⟩
  · have YES := hide yes
    obtain ⟨a1, c1, rfl, _⟩ := own_form1 how
    clear yes how q
    go_wp2_with fail
    go_ret
    exact ⟨retB (b := true) ⟨fun _ => unhide YES, fun _ => rfl⟩, bAl bb _⟩
end Go.Proofs.YtdhpfhpegaekpaaDoor.V
