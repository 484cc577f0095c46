/- impl.polIndexOf, GoodPolSchema. -/
import Derived.Test.YtkfbecelfkbkkaaZId
import Derived.Test.YtkfbecelfkbkkaaZLd
import Derived.Carry
import Derived.Deep.RegionWith
import Derived.Deep.RegionHeld3
namespace Go.Proofs.Ytkfbecelfkbkkaa.V
set_option linter.unusedSimpArgs false
set_option linter.unusedVariables false
open Go.RowKit

theorem rowGrown {w w' : World} {b : Nat} {C : Array Value} {T : TypeId} {row : Option Nat} (h : RowIs w b C T) (hg : w.grownBy w' row) (hne : some b ≠ row) : RowIs w' b C T := by
  have hl := h.lt
  unfold RowIs at *; rw [hg.block b hl hne]; exact h
/-- What the walk keeps: the schema's box, the result's, the index's. -/
structure PIW (w w' : World) (h0 h1 : Hd) : Prop where
  b : Below w.heap.size w w'
  s : RowIs w' (w.heap.size) #[.slice h0.a h0.len h0.cap, .slice h1.a h1.len h1.cap] 53
  o : RowIs w' (w.heap.size + 1) #[.map none, .map none] 102
  x : RowIs w' (w.heap.size + 1 + 1 + 1 + 1) #[.map (some (w.heap.size + 1 + 1)), .map (some (w.heap.size + 1 + 1 + 1))] 102
theorem PIW.keep {w w' w'' : World} {h0 h1 : Hd} (p : PIW w w' h0 h1) (hb : Below w'.heap.size w' w'') : PIW w w'' h0 h1 := ⟨bTr p.b hb, p.s.keep hb, p.o.keep hb, p.x.keep hb⟩
theorem PIW.grown {w w' w'' : World} {h0 h1 : Hd} {m : Nat} (p : PIW w w' h0 h1) (hg : w'.grownBy w'' (some m)) (hm : m = w.heap.size + 1 + 1 ∨ m = w.heap.size + 1 + 1 + 1) : PIW w w'' h0 h1 :=
  ⟨p.b.grown hg p.b.size (fun j h => by cases h; omega), rowGrown p.s hg (by intro h; cases h; omega), rowGrown p.o hg (by intro h; cases h; omega), rowGrown p.x hg (by intro h; cases h; omega)⟩
/-- A map with the names of the first k, each with two slices. -/
def KN (w : World) (b k : Nat) (l : List ThingTypeE) : Prop := ∃ M, KStr w b k M ∧ (∀ s, (M s).isSome = true ↔ ∃ i, ∃ h : i < l.length, i < k ∧ l[i].t.f0 = s) ∧ ∀ s v, M s = some v → ∃ h h' : Hd, v = .agg #[.slice h.a h.len h.cap, .slice h'.a h'.len h'.cap]
def KU (w : World) (b k : Nat) : Prop := ∃ M, KStr w b k M
theorem KN.keep {w w' : World} {b k : Nat} {l : List ThingTypeE} (h : KN w b k l) (hb : Below w.heap.size w w') : KN w' b k l := by obtain ⟨M, h1, h2⟩ := h; exact ⟨M, h1.keepB hb h1.lt, h2⟩
theorem KU.keep {w w' : World} {b k : Nat} (h : KU w b k) (hb : Below w.heap.size w w') : KU w' b k := by obtain ⟨M, h1⟩ := h; exact ⟨M, h1.keepB hb h1.lt⟩
theorem KN.kept {w w' : World} {b m k : Nat} {l : List ThingTypeE} (h : KN w b k l) (hg : w.grownBy w' (some m)) (hne : b ≠ m) : KN w' b k l := by obtain ⟨M, h1, h2⟩ := h; exact ⟨M, h1.kept hg (by simpa using hne), h2⟩
theorem KU.kept {w w' : World} {b m k : Nat} (h : KU w b k) (hg : w.grownBy w' (some m)) (hne : b ≠ m) : KU w' b k := by obtain ⟨M, h1⟩ := h; exact ⟨M, h1.kept hg (by simpa using hne)⟩
theorem KT.kept2 {w w' : World} {b m : Nat} {ns : List ByteArray} (h : KT w b ns) (hg : w.grownBy w' (some m)) (hne : b ≠ m) : KT w' b ns := by obtain ⟨n, M, h1, h2⟩ := h; exact ⟨n, M, h1.kept hg (by simpa using hne), h2⟩
theorem KN.all {w : World} {b : Nat} {l : List ThingTypeE} (h : KN w b l.length l) : KT w b ((l.map (·.t)).map (·.f0)) := by
  obtain ⟨M, h1, h2, h3⟩ := h
  refine ⟨_, M, h1, fun s => (h2 s).trans ⟨?_, ?_⟩, h3⟩
  · rintro ⟨i, hi, _, rfl⟩
    exact List.mem_map_of_mem (List.mem_map_of_mem (List.getElem_mem hi))
  · intro hs
    obtain ⟨t, ht, rfl⟩ := List.mem_map.1 hs
    obtain ⟨e, he, rfl⟩ := List.mem_map.1 ht
    obtain ⟨i, hi, rfl⟩ := List.getElem_of_mem he
    exact ⟨i, hi, hi, rfl⟩
theorem kn_step {M : ByteArray → Option Value} {l : List ThingTypeE} {k : Nat} (hk : k < l.length) (v : Value) (h : ∀ s, (M s).isSome = true ↔ ∃ i, ∃ h : i < l.length, i < k ∧ l[i].t.f0 = s) : ∀ s, (updK M l[k].t.f0 v s).isSome = true ↔ ∃ i, ∃ h : i < l.length, i < k + 1 ∧ l[i].t.f0 = s := by
  intro s
  unfold updK
  by_cases e : s = l[k].t.f0
  · rw [if_pos e]
    exact ⟨fun _ => ⟨k, hk, by omega, e.symm⟩, fun _ => rfl⟩
  · rw [if_neg e, h s]
    constructor
    · rintro ⟨i, hi, h1, h2⟩; exact ⟨i, hi, by omega, h2⟩
    · rintro ⟨i, hi, h1, h2⟩
      refine ⟨i, hi, ?_, h2⟩
      rcases Nat.lt_or_ge i k with h3 | h3
      · exact h3
      · obtain rfl : i = k := by omega
        exact absurd h2.symm e
theorem kn_shape {M : ByteArray → Option Value} {x : ByteArray} {a b : Hd} (h : ∀ s v, M s = some v → ∃ h h' : Hd, v = .agg #[.slice h.a h.len h.cap, .slice h'.a h'.len h'.cap]) : ∀ s v, updK M x (.agg #[.slice a.a a.len a.cap, .slice b.a b.len b.cap]) s = some v → ∃ h h' : Hd, v = .agg #[.slice h.a h.len h.cap, .slice h'.a h'.len h'.cap] := by
  intro s v hv
  unfold updK at hv
  split at hv
  · cases hv; exact ⟨a, b, rfl⟩
  · exact h s v hv
set_option maxRecDepth 40000 in
set_option maxHeartbeats 8000000 in
theorem polIndexOf_n (e : PolSchemaE) (w : World) (hn : PolSchemaN e.t) (hm : PolSchemaM w 0 e) :
    Calls Try.prog 53 #[.agg #[.slice e.h0.a e.h0.len e.h0.cap, .slice e.h1.a e.h1.len e.h1.cap]] w fun r w' => (∃ (b1 b2 : Nat) (ok : Bool), r = .returned (.tuple #[.agg #[.map (some b1), .map (some b2)], .bool ok]) ∧ (ok = true ↔ GPs e.t)) ∧ Below w.heap.size w w' := by
  have qo := hide (fun (w' : World) (hb : Below w.heap.size w w') => inOrder_n e w' hn (hm.keep hb))
  obtain ⟨⟨xt, xa⟩, h0, h1⟩ := e
  obtain ⟨st, sa, _⟩ := hm
  obtain ⟨ot, lt', oa, la', _⟩ := hn
  simp only at st sa ot lt' oa la' qo ⊢
  obtain ⟨lt, et, st⟩ := st
  obtain ⟨la, ea, sa⟩ := sa
  have HTN : Hid (∀ e ∈ lt, ThingTypeN e.t) := hide (fun e he => ot _ (by rw [← et]; exact List.mem_map_of_mem he))
  have HAN : Hid (∀ e ∈ la, ActionTypeN e.t) := hide (fun e he => oa _ (by rw [← ea]; exact List.mem_map_of_mem he))
  have LTM : Hid (lt.length ≤ maxLen) := hide (by rw [← et] at lt'; simpa using lt')
  have LAM : Hid (la.length ≤ maxLen) := hide (by rw [← ea] at la'; simpa using la')
  have HTL := hide st.1
  have HAL := hide sa.1
  have HT := hide st
  have HA := hide sa
  have ET := hide et
  have EA := hide ea
  have D : Hid (GPs ⟨xt, xa⟩ ↔ (InOrd ⟨xt, xa⟩ ∧ (∀ e ∈ lt, GTypes (xt.map (·.f0)) e.t.f1 ∧ GAttrs (xt.map (·.f0)) e.t.f2) ∧ ∀ e ∈ la, GAcT (xt.map (·.f0)) e.t)) := hide (by
    rw [← et, ← ea]
    unfold GPs InOrd GThT
    constructor
    · rintro ⟨h1, h2, ⟨h3, h4⟩, h5, h6⟩
      exact ⟨⟨⟨h1, fun t ht => ⟨(h3 t ht).1, (h3 t ht).2.1⟩⟩, h4, h2, h6⟩, fun e he => ⟨(h3 _ (List.mem_map_of_mem he)).2.2.1, (h3 _ (List.mem_map_of_mem he)).2.2.2⟩, fun e he => h5 _ (List.mem_map_of_mem he)⟩
    · rintro ⟨⟨⟨h1, h3⟩, h4, h2, h6⟩, h7, h8⟩
      refine ⟨h1, h2, ⟨fun t ht => ?_, h4⟩, fun a ha => ?_, h6⟩
      · obtain ⟨e, he, rfl⟩ := List.mem_map.1 ht
        exact ⟨(h3 _ ht).1, (h3 _ ht).2, (h7 e he).1, (h7 e he).2⟩
      · obtain ⟨e, he, rfl⟩ := List.mem_map.1 ha
        exact h8 e he)
  have E0 : Hid (InOrd ⟨xt, xa⟩ → ¬ (⟨#[]⟩ : ByteArray) ∈ xt.map (·.f0)) := hide (fun h hh => by
    obtain ⟨t, ht, he⟩ := List.mem_map.1 hh
    have := (h.1.2 t ht).1
    rw [he, goodName_empty] at this
    cases this)
  have O20 : Hid (InOrd ⟨xt, xa⟩ → h0.len ≤ 20 ∧ h1.len ≤ 20) := hide (fun h => by
    have a := h.1.1
    have b := h.2.2.1
    rw [← et] at a
    rw [← ea] at b
    simp at a b
    have := unhide HTL
    have := unhide HAL
    omega)
  generalize GPs ⟨xt, xa⟩ = G at D ⊢
  generalize InOrd ⟨xt, xa⟩ = InO at D E0 O20 qo
  clear st sa ot lt' oa la' et ea
  obtain ⟨W0, hW0⟩ : ∃ W, W = ((((w.alloc (.cells #[.slice h0.a h0.len h0.cap, .slice h1.a h1.len h1.cap] 53)).alloc (.cells #[.map none, .map none] 102)).alloc (.map #[] 0)).alloc (.map #[] 0)).alloc (.cells #[.map (some (w.heap.size + 1 + 1)), .map (some (w.heap.size + 1 + 1 + 1))] 102) := ⟨_, rfl⟩
  have P0 : Hid (PIW w W0 h0 h1) := hide (by
    rw [hW0]
    refine ⟨bAl (bAl (bAl (bAl (bAl (Below.refl _ _) _) _) _) _) _, ?_, ?_, ?_⟩
    · exact (((((RowIs.new w _ _).keep (bAl (Below.refl _ _) _)).keep (bAl (Below.refl _ _) _)).keep (bAl (Below.refl _ _) _)).keep (bAl (Below.refl _ _) _))
    · have := (((RowIs.new (w.alloc (.cells #[.slice h0.a h0.len h0.cap, .slice h1.a h1.len h1.cap] 53)) #[.map none, .map none] 102).keep (bAl (Below.refl _ _) (.map #[] 0))).keep (bAl (Below.refl _ _) (.map #[] 0))).keep (bAl (Below.refl _ _) (.cells #[.map (some (w.heap.size + 1 + 1)), .map (some (w.heap.size + 1 + 1 + 1))] 102))
      simpa using this
    · have := RowIs.new ((((w.alloc (.cells #[.slice h0.a h0.len h0.cap, .slice h1.a h1.len h1.cap] 53)).alloc (.cells #[.map none, .map none] 102)).alloc (.map #[] 0)).alloc (.map #[] 0)) #[.map (some (w.heap.size + 1 + 1)), .map (some (w.heap.size + 1 + 1 + 1))] 102
      simpa using this)
  have K0 : Hid (KN W0 (w.heap.size + 1 + 1) 0 lt ∧ KU W0 (w.heap.size + 1 + 1 + 1) 0) := hide (by
    rw [hW0]
    constructor
    · have k := KM.made Try.prog 9 Value.string ((w.alloc (.cells #[.slice h0.a h0.len h0.cap, .slice h1.a h1.len h1.cap] 53)).alloc (.cells #[.map none, .map none] 102))
      have k2 := (k.keepB (bAl (Below.refl _ _) (.map #[] 0)) k.lt)
      have k3 := (k2.keepB (bAl (Below.refl _ _) (.cells #[.map (some (w.heap.size + 1 + 1)), .map (some (w.heap.size + 1 + 1 + 1))] 102)) k2.lt)
      simp only [World.size_alloc] at k3
      exact ⟨_, k3, fun s => ⟨fun h => (by cases h), fun ⟨i, _, h, _⟩ => absurd h (Nat.not_lt_zero _)⟩, fun s v h => (by cases h)⟩
    · have k := KM.made Try.prog 9 Value.string (((w.alloc (.cells #[.slice h0.a h0.len h0.cap, .slice h1.a h1.len h1.cap] 53)).alloc (.cells #[.map none, .map none] 102)).alloc (.map #[] 0))
      have k3 := (k.keepB (bAl (Below.refl _ _) (.cells #[.map (some (w.heap.size + 1 + 1)), .map (some (w.heap.size + 1 + 1 + 1))] 102)) k.lt)
      simp only [World.size_alloc] at k3
      exact ⟨_, k3⟩)
  have HW := hide hW0.symm
  have hmm := @run_makeMap Try.prog
  clear hW0
  go_enter Try.func53, Try.ntmps53
  go_wp2_with fail
  rw [unhide HW]
  clear HW hmm
  refine (unhide qo _ (unhide P0).b).mono ?_
  rintro r w1 ⟨⟨v, rfl, hv⟩, hb⟩
  have HO := hide hv
  replace P0 := hide ((unhide P0).keep hb)
  replace K0 := hide (⟨(unhide K0).1.keep hb, (unhide K0).2.keep hb⟩ : KN w1 (w.heap.size + 1 + 1) 0 lt ∧ KU w1 (w.heap.size + 1 + 1 + 1) 0)
  clear hb hv qo
  cases v
  case false =>
    have no : Hid (¬ G) := hide (fun g => by have := (unhide HO).2 ((unhide D).1 g).1; cases this)
    have p0 := (unhide P0).x.at (o := 0) (v := .map (some (w.heap.size + 1 + 1))) rfl
    have p1 := (unhide P0).x.at (o := 1) (v := .map (some (w.heap.size + 1 + 1 + 1))) rfl
    have o0 := (unhide P0).o.at (o := 0) (v := .map none) rfl
    have o1 := (unhide P0).o.at (o := 1) (v := .map none) rfl
    have f0 := (unhide P0).o.froz 0
    have f1 := (unhide P0).o.froz 1
    clear D E0 O20 HO K0
    go_wp2_with fail
    refine bodyPost_ret (v := .tuple #[.agg #[.map (some (w.heap.size + 1 + 1)), .map (some (w.heap.size + 1 + 1 + 1))], .bool false]) (by simp [results, Try.results53, go_sem, o0, o1]) rfl ⟨⟨_, _, false, rfl, ⟨fun h => (by cases h), fun h => absurd h (unhide no)⟩⟩, ?_⟩
    repeat refine bSt ?_ (by omega) _ _
    exact (unhide P0).b
  replace HO := hide ((unhide HO).1 rfl)
  have O2 := unhide O20 (unhide HO)
  obtain ⟨m0, m1⟩ := O2
  have NE := hide (unhide E0 (unhide HO))
  clear E0 O20
  have s0 := (unhide P0).s.at (o := 0) (v := .slice h0.a h0.len h0.cap) rfl
  go_wp2_with fail
  clear s0
  go_loopw [19] (fun i w' => ∃ k : Nat, k ≤ h0.len ∧ i = .int .i64 k ∧ Hid (PIW w w' h0 h1) ∧ Hid (KN w' (w.heap.size + 1 + 1) k lt ∧ KU w' (w.heap.size + 1 + 1 + 1) 0)) (fun i _ => h0.len - (intOf i).toNat)
  case atStart => exact ⟨0, Nat.zero_le _, rfl, P0, K0⟩
  case round =>
    clear P0 K0
    obtain ⟨k, hk, rfl, P0, K0⟩ := hrel
    by_cases hlt : k < h0.len
    · have hk' : k < lt.length := by have := unhide HTL; omega
      obtain ⟨b, off, e0, hrow⟩ := ((unhide HT).keep (unhide P0).b).at hlt
      have c0 := hrow.c0 k hk'
      have c1 := hrow.c1 k hk'
      have c2 := hrow.c2 k hk'
      have hnk := unhide HTN _ (List.getElem_mem hk')
      have oz := hnk.o0
      obtain ⟨M, hM, hi, hsh⟩ := (unhide K0).1
      have bA : Below wr.heap.size wr (wr.alloc (.cells #[.string lt[k].t.f0, .slice lt[k].h1.a lt[k].h1.len lt[k].h1.cap, .slice lt[k].h2.a lt[k].h2.len lt[k].h2.cap] 90)) := bAl (Below.refl _ _) _
      have PA := hide ((unhide P0).keep bA)
      have KA := hide (hM.keepB bA hM.lt)
      have UA := hide ((unhide K0).2.keep bA)
      have px0 := (unhide P0).x.at (o := 0) (v := .map (some (w.heap.size + 1 + 1))) rfl
      have zx := (unhide P0).x.lt
      have ST := hide (kn_step hk' (.agg #[.slice lt[k].h2.a lt[k].h2.len lt[k].h2.cap, .slice lt[k].h1.a lt[k].h1.len lt[k].h1.cap]) hi)
      have SH := hide (kn_shape (x := lt[k].t.f0) (a := lt[k].h2) (b := lt[k].h1) hsh)
      have hkm : k < maxLen := by unfold maxLen; omega
      clear hrow hnk hM hi hsh bA
      generalize lt[k] = A at *
      generalize h0.a = aa at e0 ⊢
      subst e0
      go_wp2_with (at_mapUpdate; refine wpList_put_km _ kStr rfl _ _ _ _ rfl _ Try.underlying99 (w.heap.size + 1 + 1) k _ rfl (unhide KA) hkm A.t.f0 (.agg #[.slice A.h2.a A.h2.len A.h2.cap, .slice A.h1.a A.h1.len A.h1.cap]) rfl rfl oz ?_; intro w6 g1 g2 g3)
      exact ⟨⟨k + 1, by omega, by go_num, hide ((unhide PA).grown g2 (.inl rfl)), hide ⟨⟨_, g1, unhide ST, unhide SH⟩, (unhide UA).kept g2 (by omega)⟩⟩, by simp [intOf]; omega⟩
    · have ek : k = lt.length := by have := unhide HTL; omega
      have K1 : Hid (KT wr (w.heap.size + 1 + 1) (xt.map (·.f0)) ∧ KU wr (w.heap.size + 1 + 1 + 1) 0) := hide (by
        have := (unhide K0).1
        rw [ek] at this
        rw [← unhide ET]
        exact ⟨this.all, (unhide K0).2⟩)
      have s1 := (unhide P0).s.at (o := 1) (v := .slice h1.a h1.len h1.cap) rfl
      clear K0 ek
      go_wp2_with fail
      clear s1 hk hlt
      go_loopw [36] (fun i w' => ∃ k : Nat, k ≤ h1.len ∧ i = .int .i64 k ∧ Hid (PIW w w' h0 h1) ∧ Hid (KT w' (w.heap.size + 1 + 1) (xt.map (·.f0)) ∧ KU w' (w.heap.size + 1 + 1 + 1) k)) (fun i _ => h1.len - (intOf i).toNat)
      case atStart => exact ⟨0, Nat.zero_le _, rfl, P0, K1⟩
      case round =>
        clear P0 K1
        obtain ⟨k, hk, rfl, P0, K0⟩ := hrel
        by_cases hlt : k < h1.len
        · have hk' : k < la.length := by have := unhide HAL; omega
          obtain ⟨b, off, e0, hrow⟩ := ((unhide HA).keep (unhide P0).b).at hlt
          have c0 := hrow.c0 k hk'
          have c1 := hrow.c1 k hk'
          have c2 := hrow.c2 k hk'
          have c3 := hrow.c3 k hk'
          have hnk := unhide HAN _ (List.getElem_mem hk')
          have oz := hnk.o0
          obtain ⟨M, hM⟩ := (unhide K0).2
          have bA : Below wr.heap.size wr (wr.alloc (.cells #[.string la[k].t.f0, .slice la[k].h1.a la[k].h1.len la[k].h1.cap, .slice la[k].h2.a la[k].h2.len la[k].h2.cap, .slice la[k].h3.a la[k].h3.len la[k].h3.cap] 96)) := bAl (Below.refl _ _) _
          have PA := hide ((unhide P0).keep bA)
          have KA := hide (hM.keepB bA hM.lt)
          have TA := hide ((unhide K0).1.keep bA)
          have px1 := (unhide P0).x.at (o := 1) (v := .map (some (w.heap.size + 1 + 1 + 1))) rfl
          have zx := (unhide P0).x.lt
          have hkm : k < maxLen := by unfold maxLen; omega
          clear hrow hnk hM bA
          generalize la[k] = A at *
          generalize h1.a = aa at e0 ⊢
          subst e0
          go_wp2_with (at_mapUpdate; refine wpList_put_km _ kStr rfl _ _ _ _ rfl _ Try.underlying100 (w.heap.size + 1 + 1 + 1) k _ rfl (unhide KA) hkm A.t.f0 (.agg #[.slice A.h3.a A.h3.len A.h3.cap, .slice A.h1.a A.h1.len A.h1.cap, .slice A.h2.a A.h2.len A.h2.cap]) rfl rfl oz ?_; intro w6 g1 g2 g3)
          exact ⟨⟨k + 1, by omega, by go_num, hide ((unhide PA).grown g2 (.inr rfl)), hide ⟨(unhide TA).kept2 g2 (by omega), ⟨_, g1⟩⟩⟩, by simp [intOf]; omega⟩
        · have KTW := hide (unhide K0).1
          have q1 := hide (fun (w' : World) (hb : Below wr.heap.size wr w') => every_gtt (w.heap.size + 1 + 1) (w.heap.size + 1 + 1 + 1) (fun e => GTypes (xt.map (·.f0)) e.t.f1 ∧ GAttrs (xt.map (·.f0)) e.t.f2) h0 lt w' (unhide LTM) (((unhide HT).keep (unhide P0).b).keep hb) (fun x hx w'' hb2 => goodThingType_n (w.heap.size + 1 + 1) (w.heap.size + 1 + 1 + 1) (xt.map (·.f0)) x w'' (unhide NE) (unhide HTN x hx) ((((unhide HT).2.2 x hx).keep (unhide P0).b).keep (bTr hb hb2)) (((unhide KTW).keep hb).keep hb2)))
          have q2 := hide (fun (w' : World) (hb : Below wr.heap.size wr w') => every_gat (w.heap.size + 1 + 1) (w.heap.size + 1 + 1 + 1) (fun e => GAcT (xt.map (·.f0)) e.t) h1 la w' (unhide LAM) (((unhide HA).keep (unhide P0).b).keep hb) (fun x hx w'' hb2 => goodActionType_n (w.heap.size + 1 + 1) (w.heap.size + 1 + 1 + 1) (xt.map (·.f0)) x w'' (unhide NE) (unhide HAN x hx) ((((unhide HA).2.2 x hx).keep (unhide P0).b).keep (bTr hb hb2)) (((unhide KTW).keep hb).keep hb2)))
          have DD : Hid (G ↔ ((∀ e ∈ lt, GTypes (xt.map (·.f0)) e.t.f1 ∧ GAttrs (xt.map (·.f0)) e.t.f2) ∧ ∀ e ∈ la, GAcT (xt.map (·.f0)) e.t)) := hide ((unhide D).trans ⟨fun h => h.2, fun h => ⟨unhide HO, h⟩⟩)
          generalize (∀ e ∈ lt, GTypes (xt.map (·.f0)) e.t.f1 ∧ GAttrs (xt.map (·.f0)) e.t.f2) = Q1 at q1 DD
          generalize (∀ e ∈ la, GAcT (xt.map (·.f0)) e.t) = Q2 at q2 DD
          have PC := P0
          have BC := hide (Below.refl wr.heap.size wr)
          clear K0 D KTW P0 NE HO HT HA ET EA HTN HAN LTM LAM HTL HAL
          by_cases g1 : Q1
          · have r1 := hide (fun (w' : World) (hb : Below wr.heap.size wr w') => callsT (unhide q1 w' hb) g1)
            by_cases g2 : Q2
            · have r2 := hide (fun (w' : World) (hb : Below wr.heap.size wr w') => callsT (unhide q2 w' hb) g2)
              have yes := hide ((unhide DD).2 ⟨g1, g2⟩)
              clear q1 q2 DD g1 g2
              have p0 := (unhide PC).x.at (o := 0) (v := .map (some (w.heap.size + 1 + 1))) rfl
              have p1 := (unhide PC).x.at (o := 1) (v := .map (some (w.heap.size + 1 + 1 + 1))) rfl
              have s0 := (unhide PC).s.at (o := 0) (v := .slice h0.a h0.len h0.cap) rfl
              have s1 := (unhide PC).s.at (o := 1) (v := .slice h1.a h1.len h1.cap) rfl
              have o0 := (unhide PC).o.at (o := 0) (v := .map none) rfl
              have o1 := (unhide PC).o.at (o := 1) (v := .map none) rfl
              have f0 := (unhide PC).o.froz 0
              have f1 := (unhide PC).o.froz 1
              go_wp2_with fail
              first | (go_region_held3 (fun w' => w'.cell? ⟨w.heap.size + 1 + 1 + 1 + 1, 0, none⟩ = some (.map (some (w.heap.size + 1 + 1))) ∧ w'.cell? ⟨w.heap.size + 1 + 1 + 1 + 1, 1, none⟩ = some (.map (some (w.heap.size + 1 + 1 + 1))) ∧ w'.cell? ⟨w.heap.size, 0, none⟩ = some (.slice h0.a h0.len h0.cap) ∧ w'.cell? ⟨w.heap.size, 1, none⟩ = some (.slice h1.a h1.len h1.cap))
                  (first | exact ⟨p0, p1, s0, s1⟩ | (refine ⟨?_, ?_, ?_, ?_⟩ <;> (repeat (first | exact p0 | exact p1 | exact s0 | exact s1 | rw [cell_setOther _ (by omega)]))))
                  (first | (go_at_call 90; refine (unhide r1 _ (by first | exact unhide BC | exact below_drewN (unhide BC) _)).mono ?_; rintro e w9 ⟨rfl, hb⟩; replace hb := undrew hb; replace PC := hide ((unhide PC).keep hb); replace BC := hide (bTr (unhide BC) hb); clear hb; have p0 := (unhide PC).x.at (o := 0) (v := .map (some (w.heap.size + 1 + 1))) rfl; have p1 := (unhide PC).x.at (o := 1) (v := .map (some (w.heap.size + 1 + 1 + 1))) rfl; have s0 := (unhide PC).s.at (o := 0) (v := .slice h0.a h0.len h0.cap) rfl; have s1 := (unhide PC).s.at (o := 1) (v := .slice h1.a h1.len h1.cap) rfl; have o0 := (unhide PC).o.at (o := 0) (v := .map none) rfl; have o1 := (unhide PC).o.at (o := 1) (v := .map none) rfl; have f0 := (unhide PC).o.froz 0; have f1 := (unhide PC).o.froz 1) | (go_at_call 92; refine (unhide r2 _ (by first | exact unhide BC | exact below_drewN (unhide BC) _)).mono ?_; rintro e w9 ⟨rfl, hb⟩; replace PC := hide ((unhide PC).keep hb); replace BC := hide (bTr (unhide BC) hb); clear hb; have p0 := (unhide PC).x.at (o := 0) (v := .map (some (w.heap.size + 1 + 1))) rfl; have p1 := (unhide PC).x.at (o := 1) (v := .map (some (w.heap.size + 1 + 1 + 1))) rfl; have s0 := (unhide PC).s.at (o := 0) (v := .slice h0.a h0.len h0.cap) rfl; have s1 := (unhide PC).s.at (o := 1) (v := .slice h1.a h1.len h1.cap) rfl; have o0 := (unhide PC).o.at (o := 0) (v := .map none) rfl; have o1 := (unhide PC).o.at (o := 1) (v := .map none) rfl; have f0 := (unhide PC).o.froz 0; have f1 := (unhide PC).o.froz 1)))
              all_goals go_wp2_with fail
              all_goals (refine bodyPost_ret (v := .tuple #[.agg #[.map (some (w.heap.size + 1 + 1)), .map (some (w.heap.size + 1 + 1 + 1))], .bool true]) (by simp [results, Try.results53, go_sem, o0, o1]) rfl ⟨⟨_, _, true, rfl, ⟨fun _ => unhide yes, fun _ => rfl⟩⟩, ?_⟩; repeat refine bSt ?_ (by omega) _ _)
              all_goals first | exact (unhide PC).b | exact below_drewN (unhide PC).b _ | exact bTr (unhide PC).b (below_drewN (Below.refl _ _) _)
            · have r2 := hide (fun (w' : World) (hb : Below wr.heap.size wr w') => callsF (unhide q2 w' hb) g2)
              have no : Hid (¬ G) := hide (fun g => g2 ((unhide DD).1 g).2)
              clear q1 q2 DD g1 g2
              have p0 := (unhide PC).x.at (o := 0) (v := .map (some (w.heap.size + 1 + 1))) rfl
              have p1 := (unhide PC).x.at (o := 1) (v := .map (some (w.heap.size + 1 + 1 + 1))) rfl
              have s0 := (unhide PC).s.at (o := 0) (v := .slice h0.a h0.len h0.cap) rfl
              have s1 := (unhide PC).s.at (o := 1) (v := .slice h1.a h1.len h1.cap) rfl
              have o0 := (unhide PC).o.at (o := 0) (v := .map none) rfl
              have o1 := (unhide PC).o.at (o := 1) (v := .map none) rfl
              have f0 := (unhide PC).o.froz 0
              have f1 := (unhide PC).o.froz 1
              go_wp2_with fail
              first | (go_region_held3 (fun w' => w'.cell? ⟨w.heap.size + 1 + 1 + 1 + 1, 0, none⟩ = some (.map (some (w.heap.size + 1 + 1))) ∧ w'.cell? ⟨w.heap.size + 1 + 1 + 1 + 1, 1, none⟩ = some (.map (some (w.heap.size + 1 + 1 + 1))) ∧ w'.cell? ⟨w.heap.size, 0, none⟩ = some (.slice h0.a h0.len h0.cap) ∧ w'.cell? ⟨w.heap.size, 1, none⟩ = some (.slice h1.a h1.len h1.cap))
                  (first | exact ⟨p0, p1, s0, s1⟩ | (refine ⟨?_, ?_, ?_, ?_⟩ <;> (repeat (first | exact p0 | exact p1 | exact s0 | exact s1 | rw [cell_setOther _ (by omega)]))))
                  (first | (go_at_call 90; refine (unhide r1 _ (by first | exact unhide BC | exact below_drewN (unhide BC) _)).mono ?_; rintro e w9 ⟨rfl, hb⟩; replace hb := undrew hb; replace PC := hide ((unhide PC).keep hb); replace BC := hide (bTr (unhide BC) hb); clear hb; have p0 := (unhide PC).x.at (o := 0) (v := .map (some (w.heap.size + 1 + 1))) rfl; have p1 := (unhide PC).x.at (o := 1) (v := .map (some (w.heap.size + 1 + 1 + 1))) rfl; have s0 := (unhide PC).s.at (o := 0) (v := .slice h0.a h0.len h0.cap) rfl; have s1 := (unhide PC).s.at (o := 1) (v := .slice h1.a h1.len h1.cap) rfl; have o0 := (unhide PC).o.at (o := 0) (v := .map none) rfl; have o1 := (unhide PC).o.at (o := 1) (v := .map none) rfl; have f0 := (unhide PC).o.froz 0; have f1 := (unhide PC).o.froz 1) | (go_at_call 92; refine (unhide r2 _ (by first | exact unhide BC | exact below_drewN (unhide BC) _)).mono ?_; rintro e w9 ⟨rfl, hb⟩; replace PC := hide ((unhide PC).keep hb); replace BC := hide (bTr (unhide BC) hb); clear hb; have p0 := (unhide PC).x.at (o := 0) (v := .map (some (w.heap.size + 1 + 1))) rfl; have p1 := (unhide PC).x.at (o := 1) (v := .map (some (w.heap.size + 1 + 1 + 1))) rfl; have s0 := (unhide PC).s.at (o := 0) (v := .slice h0.a h0.len h0.cap) rfl; have s1 := (unhide PC).s.at (o := 1) (v := .slice h1.a h1.len h1.cap) rfl; have o0 := (unhide PC).o.at (o := 0) (v := .map none) rfl; have o1 := (unhide PC).o.at (o := 1) (v := .map none) rfl; have f0 := (unhide PC).o.froz 0; have f1 := (unhide PC).o.froz 1)))
              all_goals go_wp2_with fail
              all_goals (refine bodyPost_ret (v := .tuple #[.agg #[.map (some (w.heap.size + 1 + 1)), .map (some (w.heap.size + 1 + 1 + 1))], .bool false]) (by simp [results, Try.results53, go_sem, o0, o1]) rfl ⟨⟨_, _, false, rfl, ⟨fun h => (by cases h), fun h => absurd h (unhide no)⟩⟩, ?_⟩; repeat refine bSt ?_ (by omega) _ _)
              all_goals first | exact (unhide PC).b | exact below_drewN (unhide PC).b _ | exact bTr (unhide PC).b (below_drewN (Below.refl _ _) _)
          · have r1 := hide (fun (w' : World) (hb : Below wr.heap.size wr w') => callsF (unhide q1 w' hb) g1)
            have r2 := r1
            have no : Hid (¬ G) := hide (fun g => g1 ((unhide DD).1 g).1)
            clear q1 q2 DD g1
            have p0 := (unhide PC).x.at (o := 0) (v := .map (some (w.heap.size + 1 + 1))) rfl
            have p1 := (unhide PC).x.at (o := 1) (v := .map (some (w.heap.size + 1 + 1 + 1))) rfl
            have s0 := (unhide PC).s.at (o := 0) (v := .slice h0.a h0.len h0.cap) rfl
            have s1 := (unhide PC).s.at (o := 1) (v := .slice h1.a h1.len h1.cap) rfl
            have o0 := (unhide PC).o.at (o := 0) (v := .map none) rfl
            have o1 := (unhide PC).o.at (o := 1) (v := .map none) rfl
            have f0 := (unhide PC).o.froz 0
            have f1 := (unhide PC).o.froz 1
            go_wp2_with fail
            refine wp_region_held_drew (S := (fun w' => w'.cell? ⟨w.heap.size + 1 + 1 + 1 + 1, 0, none⟩ = some (.map (some (w.heap.size + 1 + 1))) ∧ w'.cell? ⟨w.heap.size + 1 + 1 + 1 + 1, 1, none⟩ = some (.map (some (w.heap.size + 1 + 1 + 1))) ∧ w'.cell? ⟨w.heap.size, 0, none⟩ = some (.slice h0.a h0.len h0.cap) ∧ w'.cell? ⟨w.heap.size, 1, none⟩ = some (.slice h1.a h1.len h1.cap))) (by kernel_rfl) (by exact ⟨p0, p1, s0, s1⟩) (fun hHeld => ?_)
            refine wpAnyH_take (i := 0) (v := .agg #[.map (some (w.heap.size + 1 + 1)), .map (some (w.heap.size + 1 + 1 + 1))]) rfl (by kernel_rfl) (by kernel_rfl) (by kernel_rfl) (fun _ _ _ h => h) (Or.inl ⟨by rfl, (by intro w hSw; (try dsimp only at hSw); (try go_simp); (try with_reducible rfl))⟩) (by assumption) ?_
            simp only [Act.put, List.setIfInBounds_toArray, List.set_cons_zero, List.set_cons_succ]
            refine wpAnyH_take (i := 1) (v := .pointer (some ⟨w.heap.size, 0, none⟩)) rfl (by kernel_rfl) (by kernel_rfl) (by kernel_rfl) (fun _ _ _ h => h) (Or.inl ⟨by rfl, (by intro w hSw; (try dsimp only at hSw); (try go_simp); (try with_reducible rfl))⟩) (by assumption) ?_
            simp only [Act.put, List.setIfInBounds_toArray, List.set_cons_zero, List.set_cons_succ]
            refine wpAnyH_take (i := 2) (v := .slice h0.a h0.len h0.cap) rfl (by kernel_rfl) (by kernel_rfl) (by kernel_rfl) (fun _ _ _ h => h) (Or.inl ⟨by rfl, (by intro w hSw; (try dsimp only at hSw); (try go_simp); (try with_reducible rfl))⟩) (by assumption) ?_
            simp only [Act.put, List.setIfInBounds_toArray, List.set_cons_zero, List.set_cons_succ]
            refine wpAnyH_take (i := 3) (v := .agg #[.map (some (w.heap.size + 1 + 1)), .map (some (w.heap.size + 1 + 1 + 1))]) rfl (by kernel_rfl) (by kernel_rfl) (by kernel_rfl) (fun _ _ _ h => h) (Or.inl ⟨by rfl, (by intro w hSw; (try dsimp only at hSw); (try go_simp); (try with_reducible rfl))⟩) (by assumption) ?_
            simp only [Act.put, List.setIfInBounds_toArray, List.set_cons_zero, List.set_cons_succ]
            refine wpAnyH_take (i := 4) (v := .func (.func 91) #[.agg #[.map (some (w.heap.size + 1 + 1)), .map (some (w.heap.size + 1 + 1 + 1))]] #[]) rfl (by kernel_rfl) (by kernel_rfl) (by kernel_rfl) (fun _ _ _ h => h) (Or.inl ⟨by rfl, (by intro w hSw; (try dsimp only at hSw); (try go_simp); (try with_reducible rfl))⟩) (by assumption) ?_
            simp only [Act.put, List.setIfInBounds_toArray, List.set_cons_zero, List.set_cons_succ]
            refine wpAnyH_ready (rs := [5]) (by kernel_rfl) (by simp) ?_
            refine AllReadyH.cons (o := { dst := some 57, op := Op.call { callee := Callee.value (Operand.func 90), args := #[Operand.tmp 54, Operand.tmp 56], argTypes := #[50, 148] }, type := 4, pos := "l11_kind.go:239", after := #[{ on := 2, ground := Ground.data }, { on := 4, ground := Ground.data }], guard := none }) rfl (fun K hK => ?_) AllReadyH.nil
            clear hHeld
            refine step_call2 _ (by rfl) 90 _ _ _ (by rfl) (.slice h0.a h0.len h0.cap) (.func (.func 91) #[.agg #[.map (some (w.heap.size + 1 + 1)), .map (some (w.heap.size + 1 + 1 + 1))]] #[]) (by rfl) (by rfl) (entY_of Try.func90 (by kernel_rfl) (by kernel_rfl)) (unhide r1 _ (by first | exact unhide BC | exact below_drewN (unhide BC) _)) ?_
            rintro e w9 ⟨rfl, hb⟩
            replace hb := undrew hb
            replace PC := hide ((unhide PC).keep hb)
            clear hb p0 p1 s0 s1 o0 o1 f0 f1 BC r1 r2
            have p0 := (unhide PC).x.at (o := 0) (v := .map (some (w.heap.size + 1 + 1))) rfl
            have p1 := (unhide PC).x.at (o := 1) (v := .map (some (w.heap.size + 1 + 1 + 1))) rfl
            have s0 := (unhide PC).s.at (o := 0) (v := .slice h0.a h0.len h0.cap) rfl
            have s1 := (unhide PC).s.at (o := 1) (v := .slice h1.a h1.len h1.cap) rfl
            have o0 := (unhide PC).o.at (o := 0) (v := .map none) rfl
            have o1 := (unhide PC).o.at (o := 1) (v := .map none) rfl
            have f0 := (unhide PC).o.froz 0
            have f1 := (unhide PC).o.froz 1
            refine ⟨_, rfl, ?_⟩
            refine hK.out _ _ ⟨p0, p1, s0, s1⟩ (fun hHeld => ?_)
            clear hK
            simp only [Act.put, List.setIfInBounds_toArray, List.set_cons_zero, List.set_cons_succ]
            refine wpAnyH_take (i := 6) (v := .bool false) rfl (by kernel_rfl) (by kernel_rfl) (by kernel_rfl) (fun _ _ _ h => h) (Or.inl ⟨by rfl, (by intro w hSw; (try dsimp only at hSw); (try go_simp); (try with_reducible rfl))⟩) (by assumption) ?_
            simp only [Act.put, List.setIfInBounds_toArray, List.set_cons_zero, List.set_cons_succ]
            refine wpAnyH_take (i := 7) (v := undef) rfl (by kernel_rfl) (by kernel_rfl) (by kernel_rfl) (fun _ _ _ h => h) (Or.inr ⟨(by simp [Region.wanted, yielded]), rfl⟩) (by assumption) ?_
            simp only [Act.put, List.setIfInBounds_toArray, List.set_cons_zero, List.set_cons_succ]
            refine wpAnyH_take (i := 8) (v := undef) rfl (by kernel_rfl) (by kernel_rfl) (by kernel_rfl) (fun _ _ _ h => h) (Or.inr ⟨(by simp [Region.wanted, yielded]), rfl⟩) (by assumption) ?_
            simp only [Act.put, List.setIfInBounds_toArray, List.set_cons_zero, List.set_cons_succ]
            refine wpAnyH_take (i := 9) (v := undef) rfl (by kernel_rfl) (by kernel_rfl) (by kernel_rfl) (fun _ _ _ h => h) (Or.inr ⟨(by simp [Region.wanted, yielded]), rfl⟩) (by assumption) ?_
            simp only [Act.put, List.setIfInBounds_toArray, List.set_cons_zero, List.set_cons_succ]
            refine wpAnyH_take (i := 10) (v := undef) rfl (by kernel_rfl) (by kernel_rfl) (by kernel_rfl) (fun _ _ _ h => h) (Or.inr ⟨(by simp [Region.wanted, yielded]), rfl⟩) (by assumption) ?_
            simp only [Act.put, List.setIfInBounds_toArray, List.set_cons_zero, List.set_cons_succ]
            refine wpAnyH_take (i := 11) (v := undef) rfl (by kernel_rfl) (by kernel_rfl) (by kernel_rfl) (fun _ _ _ h => h) (Or.inr ⟨(by simp [Region.wanted, yielded]), rfl⟩) (by assumption) ?_
            simp only [Act.put, List.setIfInBounds_toArray, List.set_cons_zero, List.set_cons_succ]
            refine wpAnyH_take (i := 12) (v := .bool false) rfl (by kernel_rfl) (by kernel_rfl) (by kernel_rfl) (fun _ _ _ h => h) (Or.inl ⟨by rfl, (by intro w hSw; (try dsimp only at hSw); (try go_simp); (try with_reducible rfl))⟩) (by assumption) ?_
            simp only [Act.put, List.setIfInBounds_toArray, List.set_cons_zero, List.set_cons_succ]
            refine wpAnyH_ready (rs := [13]) (by kernel_rfl) (by simp) ?_
            refine AllReadyH.cons (o := { dst := none, op := Op.store 102 (Operand.tmp 2) (Operand.tmp 52), type := 0, pos := "l11_kind.go:239", after := #[{ on := 0, ground := Ground.data }, { on := 11, ground := Ground.chain }, { on := 0, ground := Ground.phase }, { on := 1, ground := Ground.textOnly Departure.lateStores }, { on := 2, ground := Ground.textOnly Departure.lateStores }, { on := 3, ground := Ground.textOnly Departure.lateStores }, { on := 4, ground := Ground.textOnly Departure.lateStores }, { on := 5, ground := Ground.textOnly Departure.lateStoresUnsure }, { on := 6, ground := Ground.textOnly Departure.lateStores }, { on := 7, ground := Ground.textOnly Departure.lateStores }, { on := 8, ground := Ground.textOnly Departure.lateStores }, { on := 9, ground := Ground.textOnly Departure.lateStores }, { on := 10, ground := Ground.textOnly Departure.lateStores }, { on := 11, ground := Ground.textOnly Departure.lateStoresUnsure }, { on := 12, ground := Ground.textOnly Departure.lateStores }], guard := none }) rfl (fun K hK => ?_) AllReadyH.nil
            rw [if_pos (by rfl)]
            have HK := hide hK
            clear hK hHeld
            go_wp2_with fail
            refine (unhide HK).out _ _ (by refine ⟨?_, ?_, ?_, ?_⟩ <;> (repeat (first | exact p0 | exact p1 | exact s0 | exact s1 | rw [cell_setOther _ (by omega)]))) (fun hHeld => ?_)
            clear HK
            refine wpAnyH_take (i := 14) (oi := { dst := some 3, op := Op.assign (Operand.tmp 64), type := 4, pos := "l11_kind.go:239", after := #[{ on := 12, ground := Ground.data }, { on := 13, ground := Ground.chain }, { on := 0, ground := Ground.phase }, { on := 1, ground := Ground.phase }, { on := 2, ground := Ground.phase }, { on := 3, ground := Ground.phase }, { on := 4, ground := Ground.phase }, { on := 5, ground := Ground.phase }, { on := 6, ground := Ground.phase }, { on := 7, ground := Ground.phase }, { on := 8, ground := Ground.phase }, { on := 9, ground := Ground.phase }, { on := 10, ground := Ground.phase }, { on := 11, ground := Ground.phase }, { on := 12, ground := Ground.phase }, { on := 13, ground := Ground.phase }], guard := none }) (v := .bool false) rfl (by kernel_rfl) (by kernel_rfl) (by kernel_rfl) (fun _ _ _ h => h) (Or.inl ⟨by rfl, (by intro w hSw; (try dsimp only at hSw); (try go_simp); (try with_reducible rfl))⟩) (by assumption) ?_
            simp only [Act.put, List.setIfInBounds_toArray, List.set_cons_zero, List.set_cons_succ]
            refine wpAnyH_done (by kernel_rfl) ?_ _
            clear hHeld
            go_wp2_with fail
            refine bodyPost_ret (v := .tuple #[.agg #[.map (some (w.heap.size + 1 + 1)), .map (some (w.heap.size + 1 + 1 + 1))], .bool false]) (by simp [results, Try.results53, go_sem, o0, o1]) rfl ⟨⟨_, _, false, rfl, ⟨fun h => (by cases h), fun h => absurd h (unhide no)⟩⟩, ?_⟩
            repeat refine bSt ?_ (by omega) _ _
            exact (unhide PC).b
end Go.Proofs.Ytkfbecelfkbkkaa.V
