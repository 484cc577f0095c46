/- impl.dirIndexOf, GoodDirSchema. -/
import Derived.Test.YtobmdeoppbjjpaaHIe
import Derived.Carry
namespace Go.Proofs.Ytobmdeoppbjjpaa.V
set_option linter.unusedSimpArgs false
set_option linter.unusedVariables false
open Go.RowKit Go.Maps

structure PIW (w w' : World) (h0 h1 : Hd) : Prop where
  b : Below w.heap.size w w'
  s : RowIs w' (w.heap.size) #[.slice h0.a h0.len h0.cap, .slice h1.a h1.len h1.cap] 31
  o : RowIs w' (w.heap.size + 1) #[.map none, .map none] 55
  x : RowIs w' (w.heap.size + 1 + 1 + 1 + 1) #[.map (some (w.heap.size + 1 + 1)), .map (some (w.heap.size + 1 + 1 + 1))] 55
theorem PIW.keep {w w' w'' : World} {h0 h1 : Hd} (p : PIW w w' h0 h1) (hb : Below w'.heap.size w' w'') : PIW w w'' h0 h1 := ⟨bTr p.b hb, p.s.keep hb, p.o.keep hb, p.x.keep hb⟩
theorem PIW.grown {w w' w'' : World} {h0 h1 : Hd} {m : Nat} (p : PIW w w' h0 h1) (hg : w'.grownBy w'' (some m)) (hm : m = w.heap.size + 1 + 1 ∨ m = w.heap.size + 1 + 1 + 1) : PIW w w'' h0 h1 :=
  ⟨p.b.grown hg p.b.size (fun j h => by cases h; omega), rowGrown p.s hg (by intro h; cases h; omega), rowGrown p.o hg (by intro h; cases h; omega), rowGrown p.x hg (by intro h; cases h; omega)⟩
set_option maxRecDepth 40000 in
set_option maxHeartbeats 8000000 in
theorem dirIndexOf_n (h0 h1 : Hd) (lt : List AttrTypeE) (la : List ClassE) (w : World) (hl0 : lt.length ≤ 1000) (hl1 : la.length ≤ 1000) (hn0 : ∀ e ∈ lt, AttrTypeN e.t) (hn1 : ∀ e ∈ la, ClassN e.t) (st : SqAttrTypeE w 0 h0 lt) (sa : SqClassE w 0 h1 la) :
    Calls Try.prog 18 #[.agg #[.slice h0.a h0.len h0.cap, .slice h1.a h1.len h1.cap]] w fun r w' => (∃ b1 b2 : Nat, r = .returned (.agg #[.map (some b1), .map (some b2)]) ∧ KTy w' b1 lt ∧ KCl w' b2 la) ∧ Below w.heap.size w w' := by
  have HTN := hide hn0
  have HAN := hide hn1
  have HTL := hide st.1
  have HAL := hide sa.1
  have HT := hide st
  have HA := hide sa
  have BD : Hid (h0.len ≤ 1000 ∧ h1.len ≤ 1000) := hide ⟨by rw [st.1]; exact hl0, by rw [sa.1]; exact hl1⟩
  have m0 := (unhide BD).1
  have m1 := (unhide BD).2
  clear st sa hn0 hn1 hl0 hl1
  obtain ⟨W0, hW0⟩ : ∃ W, W = ((((w.alloc (.cells #[.slice h0.a h0.len h0.cap, .slice h1.a h1.len h1.cap] 31)).alloc (.cells #[.map none, .map none] 55)).alloc (.map #[] 0)).alloc (.map #[] 0)).alloc (.cells #[.map (some (w.heap.size + 1 + 1)), .map (some (w.heap.size + 1 + 1 + 1))] 55) := ⟨_, rfl⟩
  have P0 : Hid (PIW w W0 h0 h1) := hide (by
    rw [hW0]
    refine ⟨bAl (bAl (bAl (bAl (bAl (Below.refl _ _) _) _) _) _) _, ?_, ?_, ?_⟩
    · exact (((((RowIs.new w _ _).keep (bAl (Below.refl _ _) _)).keep (bAl (Below.refl _ _) _)).keep (bAl (Below.refl _ _) _)).keep (bAl (Below.refl _ _) _))
    · have := (((RowIs.new (w.alloc (.cells #[.slice h0.a h0.len h0.cap, .slice h1.a h1.len h1.cap] 31)) #[.map none, .map none] 55).keep (bAl (Below.refl _ _) (.map #[] 0))).keep (bAl (Below.refl _ _) (.map #[] 0))).keep (bAl (Below.refl _ _) (.cells #[.map (some (w.heap.size + 1 + 1)), .map (some (w.heap.size + 1 + 1 + 1))] 55))
      simpa using this
    · have := RowIs.new ((((w.alloc (.cells #[.slice h0.a h0.len h0.cap, .slice h1.a h1.len h1.cap] 31)).alloc (.cells #[.map none, .map none] 55)).alloc (.map #[] 0)).alloc (.map #[] 0)) #[.map (some (w.heap.size + 1 + 1)), .map (some (w.heap.size + 1 + 1 + 1))] 55
      simpa using this)
  have K0 : Hid (KG (·.t.f0) ayV W0 (w.heap.size + 1 + 1) 0 lt ∧ KG (·.t.f0) clV W0 (w.heap.size + 1 + 1 + 1) 0 la) := hide (by
    rw [hW0]
    constructor
    · have k := KM.made Try.prog 9 Value.string ((w.alloc (.cells #[.slice h0.a h0.len h0.cap, .slice h1.a h1.len h1.cap] 31)).alloc (.cells #[.map none, .map none] 55))
      have k2 := (k.keepB (bAl (Below.refl _ _) (.map #[] 0)) k.lt)
      have k3 := (k2.keepB (bAl (Below.refl _ _) (.cells #[.map (some (w.heap.size + 1 + 1)), .map (some (w.heap.size + 1 + 1 + 1))] 55)) k2.lt)
      simp only [World.size_alloc] at k3
      exact ⟨_, k3, fun s => ⟨fun h => (by cases h), fun ⟨i, _, h, _⟩ => absurd h (Nat.not_lt_zero _)⟩, fun s v h => (by cases h)⟩
    · have k := KM.made Try.prog 9 Value.string (((w.alloc (.cells #[.slice h0.a h0.len h0.cap, .slice h1.a h1.len h1.cap] 31)).alloc (.cells #[.map none, .map none] 55)).alloc (.map #[] 0))
      have k3 := (k.keepB (bAl (Below.refl _ _) (.cells #[.map (some (w.heap.size + 1 + 1)), .map (some (w.heap.size + 1 + 1 + 1))] 55)) k.lt)
      simp only [World.size_alloc] at k3
      exact ⟨_, k3, fun s => ⟨fun h => (by cases h), fun ⟨i, _, h, _⟩ => absurd h (Nat.not_lt_zero _)⟩, fun s v h => (by cases h)⟩)
  have HW := hide hW0.symm
  have hmm := @run_makeMap Try.prog
  have s0 := (unhide P0).s.at (o := 0) (v := .slice h0.a h0.len h0.cap) rfl
  clear hW0
  go_enter Try.func18, Try.ntmps18
  go_wp2_with fail
  rw [unhide HW]
  clear HW hmm s0
  go_loopw [14] (fun i w' => ∃ k : Nat, k ≤ h0.len ∧ i = .int .i64 k ∧ Hid (PIW w w' h0 h1) ∧ Hid (KG (·.t.f0) ayV w' (w.heap.size + 1 + 1) k lt ∧ KG (·.t.f0) clV w' (w.heap.size + 1 + 1 + 1) 0 la)) (fun i _ => h0.len - (intOf i).toNat)
  case atStart => exact ⟨0, Nat.zero_le _, rfl, P0, K0⟩
  case round =>
    clear P0 K0
    obtain ⟨k, hk, rfl, P0, K0⟩ := hrel
    by_cases hlt : k < h0.len
    · have hk' : k < lt.length := by have := unhide HTL; omega
      obtain ⟨b, off, e0, hrow⟩ := ((unhide HT).keep (unhide P0).b).at hlt
      have c0 := hrow.c0 k hk'
      have c1 := hrow.c1 k hk'
      have c2 := hrow.c2 k hk'
      have oz := (unhide HTN _ (List.getElem_mem hk')).o0
      obtain ⟨M, hM, hi⟩ := (unhide K0).1
      have bA : Below wr.heap.size wr (wr.alloc (.cells #[.string lt[k].t.f0, .int .i64 lt[k].t.f1, .bool lt[k].t.f2] 38)) := bAl (Below.refl _ _) _
      have PA := hide ((unhide P0).keep bA)
      have KA := hide (hM.keepB bA hM.lt)
      have UA := hide ((unhide K0).2.keep bA)
      have px0 := (unhide P0).x.at (o := 0) (v := .map (some (w.heap.size + 1 + 1))) rfl
      have zx := (unhide P0).x.lt
      have ST := hide (kg_step (nm := fun x : AttrTypeE => x.t.f0) (c := ayV) (M := M) hk' hi)
      have hkm : k < maxLen := by have := unhide BD; unfold maxLen; omega
      unfold ayV at ST
      clear hrow hM hi bA
      generalize lt[k] = A at *
      generalize h0.a = aa at e0 ⊢
      subst e0
      go_wp2_with (at_mapUpdate; refine wpList_put_km _ kStr rfl _ _ _ _ rfl _ Try.underlying52 (w.heap.size + 1 + 1) k _ rfl (unhide KA) hkm A.t.f0 (.agg #[.string A.t.f0, .int .i64 A.t.f1, .bool A.t.f2]) rfl rfl oz ?_; intro w6 g1 g2 g3)
      exact ⟨⟨k + 1, by omega, by go_num, hide ((unhide PA).grown g2 (.inl rfl)), hide ⟨⟨_, g1, unhide ST⟩, (unhide UA).kept g2 (by omega)⟩⟩, by simp [intOf]; omega⟩
    · have ek : k = lt.length := by have := unhide HTL; omega
      replace K0 : Hid (KG (·.t.f0) ayV wr (w.heap.size + 1 + 1) lt.length lt ∧ KG (·.t.f0) clV wr (w.heap.size + 1 + 1 + 1) 0 la) := hide (by
        have := unhide K0
        rw [ek] at this
        exact this)
      have s1 := (unhide P0).s.at (o := 1) (v := .slice h1.a h1.len h1.cap) rfl
      clear ek
      go_wp2_with fail
      clear s1 hk hlt
      go_loopw [27] (fun i w' => ∃ k : Nat, k ≤ h1.len ∧ i = .int .i64 k ∧ Hid (PIW w w' h0 h1) ∧ Hid (KG (·.t.f0) ayV w' (w.heap.size + 1 + 1) lt.length lt ∧ KG (·.t.f0) clV w' (w.heap.size + 1 + 1 + 1) k la)) (fun i _ => h1.len - (intOf i).toNat)
      case atStart => exact ⟨0, Nat.zero_le _, rfl, P0, K0⟩
      case round =>
        clear P0 K0
        obtain ⟨k, hk, rfl, P0, K0⟩ := hrel
        by_cases hlt : k < h1.len
        · have hk' : k < la.length := by have := unhide HAL; omega
          obtain ⟨b, off, e0, hrow⟩ := ((unhide HA).keep (unhide P0).b).at hlt
          have c0 := hrow.c0 k hk'
          have c1 := hrow.c1 k hk'
          have c2 := hrow.c2 k hk'
          have c3 := hrow.c3 k hk'
          have oz := (unhide HAN _ (List.getElem_mem hk')).o0
          obtain ⟨M, hM, hi⟩ := (unhide K0).2
          have bA : Below wr.heap.size wr (wr.alloc (.cells #[.string la[k].t.f0, .string la[k].t.f1, .slice la[k].h2.a la[k].h2.len la[k].h2.cap, .slice la[k].h3.a la[k].h3.len la[k].h3.cap] 45)) := bAl (Below.refl _ _) _
          have PA := hide ((unhide P0).keep bA)
          have KA := hide (hM.keepB bA hM.lt)
          have UA := hide ((unhide K0).1.keep bA)
          have px0 := (unhide P0).x.at (o := 1) (v := .map (some (w.heap.size + 1 + 1 + 1))) rfl
          have zx := (unhide P0).x.lt
          have ST := hide (kg_step (nm := fun x : ClassE => x.t.f0) (c := clV) (M := M) hk' hi)
          have hkm : k < maxLen := by have := unhide BD; unfold maxLen; omega
          unfold clV at ST
          clear hrow hM hi bA
          generalize la[k] = A at *
          generalize h1.a = aa at e0 ⊢
          subst e0
          go_wp2_with (at_mapUpdate; refine wpList_put_km _ kStr rfl _ _ _ _ rfl _ Try.underlying53 (w.heap.size + 1 + 1 + 1) k _ rfl (unhide KA) hkm A.t.f0 (.agg #[.string A.t.f0, .string A.t.f1, .slice A.h2.a A.h2.len A.h2.cap, .slice A.h3.a A.h3.len A.h3.cap]) rfl rfl oz ?_; intro w6 g1 g2 g3)
          exact ⟨⟨k + 1, by omega, by go_num, hide ((unhide PA).grown g2 (.inr rfl)), hide ⟨(unhide UA).kept g2 (by omega), ⟨_, g1, unhide ST⟩⟩⟩, by simp [intOf]; omega⟩
        · have ek : k = la.length := by have := unhide HAL; omega
          have KX : Hid (KTy wr (w.heap.size + 1 + 1) lt ∧ KCl wr (w.heap.size + 1 + 1 + 1) la) := hide (by have := unhide K0; rw [ek] at this; exact this)
          have p0 := (unhide P0).x.at (o := 0) (v := .map (some (w.heap.size + 1 + 1))) rfl
          have p1 := (unhide P0).x.at (o := 1) (v := .map (some (w.heap.size + 1 + 1 + 1))) rfl
          have o0 := (unhide P0).o.at (o := 0) (v := .map none) rfl
          have o1 := (unhide P0).o.at (o := 1) (v := .map none) rfl
          have f0 := (unhide P0).o.froz 0
          have f1 := (unhide P0).o.froz 1
          clear ek K0
          go_wp2_with fail
          refine bodyPost_ret (v := .agg #[.map (some (w.heap.size + 1 + 1)), .map (some (w.heap.size + 1 + 1 + 1))]) (by simp [results, Try.results18, go_sem, o0, o1]) rfl ⟨⟨_, _, rfl, ((unhide KX).1.setCell _ _ (by omega) _).setCell _ _ (by omega) _, ((unhide KX).2.setCell _ _ (by omega) _).setCell _ _ (by omega) _⟩, ?_⟩
          repeat refine bSt ?_ (by omega) _ _
          exact (unhide P0).b
end Go.Proofs.Ytobmdeoppbjjpaa.V
