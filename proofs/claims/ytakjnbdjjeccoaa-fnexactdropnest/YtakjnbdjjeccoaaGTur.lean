/- (impl.graph[string]).turned. -/
import Derived.Test.YtakjnbdjjeccoaaGNgr
import Derived.Test.YtakjnbdjjeccoaaGPur
namespace Go.Proofs.Ytakjnbdjjeccoaa
open Go.RowKit Go.Maps

theorem KR.notMap {α : Type} {P : Program} {k : TypeId} {enc : α → Value} {w : World} {b r n cnt : Nat} {m : α → Option Value} {done : α → Prop} (h : KR P k enc w b r n m done cnt) : ∀ e c, w.heap[r]? ≠ some (.map e c) := fun e c hx => by
  obtain ⟨D, left, ⟨_, _, _, _, _, _, _, _, _, x5, _⟩, _⟩ := h
  rw [x5] at hx; cases hx
theorem topF {tab : Bs → Option Nat} {x : Bs} {v : Value} (h : topM tab x = some v) : ∃ b, tab x = some b ∧ v = .map (some b) := by
  unfold topM at h
  simp only [Option.map_eq_some_iff] at h
  obtain ⟨b, h1, h2⟩ := h
  exact ⟨b, h1, h2.symm⟩
theorem setF_some {es : List (Bs × Bs)} {a x : Bs} {v : Value} (h : setF es a x = some v) : (a, x) ∈ es ∧ v = .agg #[] := by
  unfold setF at h
  split at h
  · next hx => exact ⟨hx, (Option.some.inj h).symm⟩
  · cases h
theorem setF_isSome {es : List (Bs × Bs)} {a x : Bs} (h : (a, x) ∈ es) : (setF es a x).isSome = true := by
  unfold setF; rw [if_pos h]; rfl
open Classical in
theorem flip_le {es es' : List (Bs × Bs)} (hn : es'.Nodup) (h : ∀ x y, (x, y) ∈ es' → (y, x) ∈ es) : es'.length ≤ es.length := by
  have := nodup_le es' (es.map fun p => (p.2, p.1)) hn (fun p hp => List.mem_map.2 ⟨(p.2, p.1), h p.1 p.2 hp, rfl⟩)
  simpa using this

set_option maxRecDepth 100000 in
set_option maxHeartbeats 2000000 in
theorem turned_any (lo bg n : Nat) (es : List (Bs × Bs)) (tab : Bs → Option Nat) (w : World) (hG : GM w lo bg n es tab) (hes : es.length ≤ 200) :
    Calls Try.prog 70 #[.map (some bg)] w fun e w' => (∃ bg' es' tab', e = .returned (.map (some bg')) ∧ GM w' w.heap.size bg' 1000 es' tab' ∧ (∀ x y, (x, y) ∈ es' ↔ (y, x) ∈ es) ∧ es'.length ≤ 200) ∧ Below w.heap.size w w' := by
  have hbg := hG.top.lt
  obtain ⟨W, hW⟩ : ∃ W, W = w.alloc (.map #[] 0) := ⟨_, rfl⟩
  have GO := hide (show GM W w.heap.size w.heap.size 0 [] (fun _ => none) by rw [hW]; exact GM.made w _ (Nat.le_refl _))
  have B0 := hide (show Below w.heap.size w W by rw [hW]; exact bAl (Below.refl _ _) _)
  have HG := hide hG
  have HT := hide (hG.keepB (unhide B0) (Nat.le_refl _)).top
  have HW := hide hW.symm
  have zW := hide (show w.heap.size < W.heap.size by rw [hW]; simp)
  have HE := hide hes
  have hmm := @run_makeMap Try.prog
  clear hG hW hes
  go_enter Try.func70, Try.ntmps70
  go_wp2_with (first
    | (rw [unhide HW]; clear hmm; at_range; refine wpList_range_km _ kStr rfl _ _ rfl _ Try.underlying60 bg n _ rfl (unhide HT) ?_; intro w0 cnt0 hr0 hg0 hs0)
    | go_in)
  clear HT HW
  go_frame
  go_loopw [11] (fun _ wr => ∃ (done : Bs → Prop) (cnt : Nat) (es' : List (Bs × Bs)) (tab' : Bs → Option Nat), KR Try.prog 9 Value.string wr bg W.heap.size n (topM tab) done cnt ∧ Hid (GM wr w.heap.size w.heap.size es'.length es' tab') ∧ Hid (∀ x y, (x, y) ∈ es' ↔ done y ∧ (y, x) ∈ es) ∧ Hid es'.Nodup ∧ Hid (Below w.heap.size w wr)) (fun _ wr => wr.rangeLeft bg W.heap.size)
  case atStart => exact ⟨_, _, [], _, hr0, hide ((unhide GO).grown hg0 (fun r h => by cases h)), hide (fun x y => ⟨fun h => by simp at h, fun h => h.1.elim⟩), hide List.nodup_nil, hide ((unhide B0).trans (Below.grown (Below.refl _ _) hg0 (Nat.le_of_lt (unhide zW)) (fun _ h => by cases h)))⟩
  case round =>
    clear hr0 hg0 hs0 GO B0
    obtain ⟨done, cnt, es', tab', hr, hO, hE, hN, hB⟩ := hrel
    go_wp2_with (first
      | (at_next; refine wpList_next_km _ kStr rfl _ rfl bg W.heap.size n _ _ _ rfl hr ?_ ?_)
      | go_in)
    · intro hd
      have FIN := hide (show GM wr w.heap.size w.heap.size 1000 es' tab' ∧ (∀ x y, (x, y) ∈ es' ↔ (y, x) ∈ es) ∧ es'.length ≤ 200 from by
        have G := unhide hO
        have hE' : ∀ x y, (x, y) ∈ es' ↔ (y, x) ∈ es := fun x y => by
          rw [unhide hE x y]
          refine ⟨fun h => h.2, fun h => ⟨?_, h⟩⟩
          have ok := (unhide HG).ok y x h
          have hs := ((unhide HG).has y).2 ⟨x, h⟩
          exact hd y ok.1 (by unfold topM; simpa using hs)
        have hL : es'.length ≤ 200 := Nat.le_trans (flip_le (unhide hN) (fun x y h => (hE' x y).1 h)) (unhide HE)
        exact ⟨⟨G.base, G.top.more (by omega), fun a b e => (G.kid a b e).more (by omega), G.inj, G.ge, G.has, G.ok⟩, hE', hL⟩)
      clear hd hr hO hE hN
      go_wp2_with fail
      go_ret
      exact ⟨⟨_, es', tab', rfl, unhide FIN⟩, unhide hB⟩
    · intro x v w1 cnt1 hx hM hnd hr1 hlt hg1 hs1 hen
      obtain ⟨b, hb, rfl⟩ := topF hM
      have G1 := hide ((unhide hO).grown hg1 (fun r h => by cases h; exact hr.notMap))
      have B1 := hide ((unhide hB).grown hg1 (unhide hB).size (fun k h => by cases h; exact Nat.le_of_lt (unhide zW)))
      have hkid := (unhide HG).kid x b hb
      have zb := hkid.lt
      have K1 := hide (hkid.keepB (unhide B1) zb)
      have hc0 := hide (hr.left)
      have HND := hide hnd
      have HX := hide hx
      have zr := hr1.lt
      clear hM hnd hg1 hO hB hkid hr hs1
      go_wp2_with (first
        | (at_range; refine wpList_range_km _ kStr rfl _ _ rfl _ Try.underlying98 b n _ rfl (unhide K1) ?_; intro w2 cnt2 hr2 hg2 hs2)
        | go_in)
      go_frame
      obtain ⟨r2, hr2e⟩ : ∃ r, r = w1.heap.size := ⟨_, rfl⟩
      rw [← hr2e] at hr2
      rw [← hr2e]
      have RA := hide (show bg < r2 ∧ W.heap.size < r2 ∧ w.heap.size ≤ r2 by have := (unhide B1).size; have := unhide zW; omega)
      have KA := hide (hr1.kept hg2 (by simp) (by simp))
      have GA := hide ((unhide G1).grown hg2 (fun r h => by cases h))
      have BA := hide ((unhide B1).trans (Below.grown (Below.refl _ _) hg2 (unhide B1).size (fun _ h => by cases h)))
      clear hr1 hg2 hs2 hen K1 hr2e G1 B1 zr
      go_loopw [18] (fun _ wr => ∃ (done2 : Bs → Prop) (cnt2 : Nat) (es' : List (Bs × Bs)) (tab' : Bs → Option Nat), KR Try.prog 9 Value.string wr b r2 n (setF es x) done2 cnt2 ∧ Hid (KR Try.prog 9 Value.string wr bg W.heap.size n (topM tab) (fun y => done y ∨ y = x) cnt1) ∧ Hid (GM wr w.heap.size w.heap.size es'.length es' tab') ∧ Hid (∀ p q, (p, q) ∈ es' ↔ (done q ∧ (q, p) ∈ es) ∨ (q = x ∧ done2 p ∧ (x, p) ∈ es)) ∧ Hid es'.Nodup ∧ Hid (Below w.heap.size w wr)) (fun _ wr => wr.rangeLeft b r2)
      case atStart => exact ⟨_, _, es', tab', hr2, KA, GA, hide (fun p q => by rw [unhide hE p q]; exact ⟨.inl, fun h => h.elim id (fun h => h.2.1.elim)⟩), hN, BA⟩
      case round =>
        clear hr2 KA GA BA hE hN
        obtain ⟨done2, cnt3, fs, tab2, hr3, hK, hO, hE, hN, hB⟩ := hrel
        go_wp2_with (first
          | (at_next; refine wpList_next_km _ kStr rfl _ rfl b r2 n _ _ _ rfl hr3 ?_ ?_)
          | go_in)
        · intro hd
          have E2 := hide (show ∀ p q, (p, q) ∈ fs ↔ (done q ∨ q = x) ∧ (q, p) ∈ es from fun p q => by
            rw [unhide hE p q]
            constructor
            · rintro (⟨h1, h2⟩ | ⟨rfl, _, h2⟩)
              · exact ⟨.inl h1, h2⟩
              · exact ⟨.inr rfl, h2⟩
            · rintro ⟨h1 | rfl, h2⟩
              · exact .inl ⟨h1, h2⟩
              · exact .inr ⟨rfl, hd p ((unhide HG).ok _ _ h2).2 (setF_isSome h2), h2⟩)
          clear hd hr3 hE
          go_wp2_with fail
          exact ⟨⟨_, cnt1, fs, tab2, unhide hK, hO, E2, hN, hB⟩, by rw [(unhide hK).left, unhide hc0]; exact hlt⟩
        · intro y v w3 cnt4 hy hM hnd hr4 hlt2 hg3 hs3 hen2
          obtain ⟨hxy, rfl⟩ := setF_some hM
          have G3 := hide ((unhide hO).grown hg3 (fun r h => by cases h; exact hr3.notMap))
          have K3 := hide ((unhide hK).kept hg3 (fun e => by have := unhide RA; cases e; omega) (fun e => by have := unhide RA; cases e; omega))
          have B3 := hide ((unhide hB).grown hg3 (unhide hB).size (fun k h => by cases h; exact (unhide RA).2.2))
          have hL : fs.length ≤ 200 := Nat.le_trans (flip_le (unhide hN) (fun p q h => by rcases (unhide hE p q).1 h with h | ⟨rfl, _, h⟩; exact h.2; exact h)) (unhide HE)
          have hc3 := hide hr3.left
          have qj := hide (join_any w.heap.size w.heap.size fs.length fs tab2 y x w3 (unhide G3) (unhide B3).size (by omega) hy (unhide HX))
          have NN := hide (show ((y, x) :: fs).Nodup from List.nodup_cons.2 ⟨fun h => by
            rcases (unhide hE y x).1 h with h | h
            · exact unhide HND h.1
            · exact hnd h.2.1, unhide hN⟩)
          have E3 := hide (show ∀ p q, (p, q) ∈ (y, x) :: fs ↔ (done q ∧ (q, p) ∈ es) ∨ (q = x ∧ (done2 p ∨ p = y) ∧ (x, p) ∈ es) from fun p q => by
            rw [List.mem_cons, unhide hE p q]
            constructor
            · rintro (h | h | ⟨h1, h2, h3⟩)
              · simp only [Prod.mk.injEq] at h
                obtain ⟨rfl, rfl⟩ := h
                exact .inr ⟨rfl, .inr rfl, hxy⟩
              · exact .inl h
              · exact .inr ⟨h1, .inl h2, h3⟩
            · rintro (h | ⟨rfl, h2 | rfl, h3⟩)
              · exact .inr (.inl h)
              · exact .inr (.inr ⟨rfl, h2, h3⟩)
              · exact .inl rfl)
          clear hM hnd hg3 hs3 hxy hr3 hK hO hE hN hB G3 hL hy
          go_wp2_with fail
          refine (unhide qj).mono ?_
          rintro e w5 ⟨rfl, ⟨tab5, hG5⟩, hK5⟩
          have G5 := hide hG5
          have B5 := hide ((unhide B3).trans (hK5.below (unhide B3).size))
          have K5 := hide (hK5.kr (unhide K3) hbg)
          have R5 := hK5.kr hr4 zb
          clear hG5 hK5 qj hr4 hen2 K3 B3
          go_wp2_with fail
          exact ⟨⟨_, cnt4, (y, x) :: fs, tab5, R5, K5, G5, E3, NN, B5⟩, by rw [R5.left, unhide hc3]; exact hlt2⟩
end Go.Proofs.Ytakjnbdjjeccoaa
