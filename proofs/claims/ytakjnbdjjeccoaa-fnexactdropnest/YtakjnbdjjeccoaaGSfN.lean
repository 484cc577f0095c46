/- impl.compareNests as slices.SortFunc asks it; slices.SortedFunc(maps.Keys(m), compareNests). -/
import Derived.Test.YtakjnbdjjeccoaaGGe
import Derived.Test.YtakjnbdjjeccoaaGSrG
import Derived.Test.YtakjnbdjjeccoaaGItN
import Derived.Test.YtakjnbdjjeccoaaGItM
import Derived.Test.YtakjnbdjjeccoaaGSor
import Derived.Test.YtakjnbdjjeccoaaSf
namespace Go.Proofs.Ytakjnbdjjeccoaa
open Go.RowKit Go.Maps Go.Sort Go.Shelf

/-- The order of nests. -/
def cfN (x y : Bs × Bs) : Int := cmpNe x.1 x.2 y.1 y.2
theorem cmpNe_lt (g m g' m' : Bs) : cmpNe g m g' m' < 0 ↔ cmpB g g' < 0 ∨ (g = g' ∧ cmpB m m' < 0) := by
  unfold cmpNe orI
  by_cases h : cmpB g g' = 0
  · rw [if_pos h]
    have e := cmpB_zero h
    constructor
    · exact fun k => .inr ⟨e, k⟩
    · rintro (k | ⟨_, k⟩)
      · omega
      · exact k
  · rw [if_neg h]
    constructor
    · exact fun k => .inl k
    · rintro (k | ⟨e, _⟩)
      · exact k
      · exact absurd (by rw [e]; unfold cmpB; exact cmpT_self _) h
theorem cmpB_tri (a b : Bs) : cmpB a b < 0 ∨ a = b ∨ cmpB b a < 0 := by
  rcases Int.lt_trichotomy (cmpB a b) 0 with h | h | h
  · exact .inl h
  · exact .inr (.inl (cmpB_zero h))
  · exact .inr (.inr (cmpB_anti h))
theorem cfN_lt (x y : Bs × Bs) : cfN x y < 0 ↔ cmpB x.1 y.1 < 0 ∨ (x.1 = y.1 ∧ cmpB x.2 y.2 < 0) := cmpNe_lt _ _ _ _
theorem cfN_irr (x : Bs × Bs) : ¬ cfN x x < 0 := by
  rw [cfN_lt]
  rintro (h | ⟨_, h⟩)
  · exact cmpB_irr _ h
  · exact cmpB_irr _ h
theorem cfN_tr (x y z : Bs × Bs) (h1 : cfN x y < 0) (h2 : cfN y z < 0) : cfN x z < 0 := by
  rw [cfN_lt] at *
  rcases h1 with h1 | ⟨e1, h1⟩ <;> rcases h2 with h2 | ⟨e2, h2⟩
  · exact .inl (cmpB_tr _ _ _ h1 h2)
  · exact .inl (e2 ▸ h1)
  · exact .inl (e1 ▸ h2)
  · exact .inr ⟨e1.trans e2, cmpB_tr _ _ _ h1 h2⟩
theorem cfN_tri (x y : Bs × Bs) : cfN x y < 0 ∨ x = y ∨ cfN y x < 0 := by
  rw [cfN_lt, cfN_lt]
  rcases cmpB_tri x.1 y.1 with h | h | h
  · exact .inl (.inl h)
  · rcases cmpB_tri x.2 y.2 with k | k | k
    · exact .inl (.inr ⟨h, k⟩)
    · exact .inr (.inl (Prod.ext h k))
    · exact .inr (.inr (.inr ⟨h.symm, k⟩))
  · exact .inr (.inr (.inl h))
theorem swoN : SWO (ltOf cfN) where
  irrefl x := by unfold ltOf; simpa using cfN_irr x
  trans x y z h1 h2 := by unfold ltOf at *; simp only [decide_eq_true_eq] at *; exact cfN_tr x y z h1 h2
  ntrans x y z h1 h2 := by
    unfold ltOf at *
    simp only [decide_eq_false_iff_not] at *
    intro h3
    rcases cfN_tri x y with h | h | h
    · exact h1 h
    · subst h; exact h2 h3
    · exact h2 (cfN_tr _ _ _ h h3)
theorem cmpLaysN (blk off size : Nat) (w : World) : CmpLays Try.prog 48 #[] celN 2 cfN blk off size w := fun m os dk _ x y => by
  exact (compareNests_gr x.1 x.2 y.1 y.2 _).mono fun e w' h => h
theorem cmpLaysM (blk off size : Nat) (w : World) : CmpLays Try.prog 48 #[] celM 2 cfN blk off size w := fun m os dk _ x y => by
  exact (compareNests_gr x.1 x.2 y.1 y.2 _).mono fun e w' h => h

/-- The list of the map's keys, rising. -/
structure SrtN {H : Type} (D0 : DataW H) (ss : List (Bs × Bs)) : Prop where
  keys : KeysN D0 ss
  ris : ss.Pairwise (fun a b => cfN a b < 0)

set_option maxRecDepth 100000 in
set_option maxHeartbeats 1000000 in
theorem sortedFuncN {H : Type} (b nn : Nat) (D0 : DataW H) {R : Value → Option (DataW H × List MemPlace)} (w : World) (hown : w.ownsMap Try.prog 42 R b nn D0) (hmax : Maps.size D0 ≤ 1000000) :
    Calls Try.prog 53 #[.func (.func 85) #[] #[.pointer (some ⟨w.heap.size, 0, none⟩)], .func (.func 48) #[] #[]] (w.alloc (.cells #[.map (some b)] 62)) fun e w' => ∃ (v : Value) (ss : List (Bs × Bs)), e = .returned v ∧ SrtN D0 ss ∧
      w'.ownsRow (w.alloc (.cells #[.map (some b)] 62)).heap.size 42 2 v ss.length (celsN ss) ∧ Below (w.alloc (.cells #[.map (some b)] 62)).heap.size (w.alloc (.cells #[.map (some b)] 62)) w' := by
  have hbl := hown.lt
  have hk : ∀ x, (celN x).length = 2 := fun _ => rfl
  obtain ⟨W, hW⟩ : ∃ W, W = w.alloc (.cells #[.map (some b)] 62) := ⟨_, rfl⟩
  have hseq : SeqGives Fence.wide 4 Try.prog 85 #[.pointer (some ⟨w.heap.size, 0, none⟩)] encN (fun ss => KeysN D0 ss) (Maps.size D0) W := by
    rw [hW]
    exact givesN 4 (by omega) w.heap.size b nn D0 _ (by simp) (by simp) (by
      obtain ⟨es, clock, hb, Ft, hs, hD⟩ := hown
      exact ⟨es, clock, (Below.heap_alloc _ _ b hbl).trans hb, Ft, hs, hD⟩)
  rw [← hW]
  have qc := hide (collectN 85 _ (enters_of Try.func85 (by kernel_rfl) rfl) _ (Maps.size D0) (by unfold maxLen; omega) (by omega) W hseq.bounded)
  clear hseq hW hown
  go_enter Try.func53, Try.ntmps53
  go_wp2_with fail
  refine (unhide qc).mono ?_
  rintro e w1 ⟨v, ss, rfl, ⟨hS, hlen⟩, hrow, hnil, hb⟩
  clear qc
  rcases hrow.2 with ⟨rfl, hz⟩ | ⟨gb, cap, cur, rfl, hbase, hgb, r1, r2, r3, r4⟩
  · have hss : ss = [] := List.eq_nil_of_length_eq_zero hz
    subst hss
    have qn := hide (AnyF.slices_SortFunc_none Try.sortF84 none 0 (.func (.func 48) #[] #[]) w1)
    have O := hide hrow
    have B := hide hb
    have K := hide hS
    clear hrow hb hS hnil
    go_wp2_with fail
    refine (unhide qn).mono ?_
    rintro e w2 ⟨rfl, rfl⟩
    go_wp2_with fail
    go_ret
    exact ⟨.slice none 0 0, [], rfl, ⟨unhide K, List.Pairwise.nil⟩, unhide O, unhide B⟩
  · have hgl : gb < w1.heap.size := (Array.getElem?_eq_some_iff.1 hgb).1
    have qs := hide (AnyQ.slices_SortFunc Try.sortF84 2 Try.isAgg42 Try.sizeOf42 celN hk (fun x u hu => by simp [celN] at hu; rcases hu with rfl | rfl <;> rfl) cfN swoN 48 #[] gb 0 cap ss.toArray w1
      (enters_of Try.func48 (by kernel_rfl) rfl) (cmpLaysN gb 0 _ w1) (holdsK_of hk (by omega) hgb (by rw [r4]; rfl)) hgl (by simp; omega))
    have e1 : ss.toArray.size = ss.length := by simp
    rw [e1] at qs
    have F := hide (show ∀ d' n os, PermIn 0 ss.length ss.toArray d' → SortedIn (ltOf cfN) 0 ss.length d' → SrtN D0 d'.toList ∧ (sortWorldK celN 2 w1 gb 0 n d' os).ownsRow W.heap.size 42 2 (.slice (some ⟨gb, 0, none⟩) ss.length cap) d'.toList.length (celsN d'.toList) ∧ Below W.heap.size W (sortWorldK celN 2 w1 gb 0 n d' os) from fun d' n os hp hs => by
      rw [← e1] at hp hs
      obtain ⟨z1, z2, z3⟩ := perm_sorted hp hs
      refine ⟨⟨⟨z2.nodup_iff.2 hS.1, fun x => (z2.mem_iff).trans (hS.2 x)⟩, ?_⟩, ?_, hb.grown (sortedK_grown _) hb.size (fun j hj => by cases hj; exact hbase)⟩
      · refine (z3.and (z2.nodup_iff.2 hS.1)).imp fun {a b} h => ?_
        have h1 := h.1
        unfold ltOf at h1
        have h2 : ¬ a = b := h.2
        rcases cfN_tri a b with h3 | h3 | h3
        · exact h3
        · exact absurd h3 h2
        · exact absurd h3 (by simpa using h1)
      · have := sortedK_own (n := n) (os := os) (base := W.heap.size) hk (by omega) (ss := ss) (ts := d'.toList) z1 hbase hgb r1 r2 r3
        rw [z1]
        exact this)
    clear hS hlen hrow hnil hb hgb r1 r2 r3 r4 e1 hbase hgl
    generalize ss.length = N at qs F
    go_wp2_with fail
    refine (unhide qs).mono ?_
    rintro e w2 ⟨rfl, d', n, os, hp, hs, rfl⟩
    have G := hide (unhide F d' n os hp hs)
    have hN := hp.1
    clear F hp hs qs
    go_wp2_with fail
    go_ret
    exact ⟨_, d'.toList, rfl, (unhide G).1, (unhide G).2.1, (unhide G).2.2⟩

/-- The list of the map's keys, rising. -/
structure SrtM {H : Type} (D0 : DataW H) (ss : List (Bs × Bs)) : Prop where
  keys : KeysM D0 ss
  ris : ss.Pairwise (fun a b => cfN a b < 0)

set_option maxRecDepth 100000 in
set_option maxHeartbeats 1000000 in
theorem sortedFuncM {H : Type} (b nn : Nat) (D0 : DataW H) {R : Value → Option (DataW H × List MemPlace)} (w : World) (hown : w.ownsMap Try.prog 42 R b nn D0) (hmax : Maps.size D0 ≤ 1000000) :
    Calls Try.prog 53 #[.func (.func 105) #[] #[.pointer (some ⟨w.heap.size, 0, none⟩)], .func (.func 48) #[] #[]] (w.alloc (.cells #[.map (some b)] 78)) fun e w' => ∃ (v : Value) (ss : List (Bs × Bs)), e = .returned v ∧ SrtM D0 ss ∧
      w'.ownsRow (w.alloc (.cells #[.map (some b)] 78)).heap.size 42 2 v ss.length (celsM ss) ∧ Below (w.alloc (.cells #[.map (some b)] 78)).heap.size (w.alloc (.cells #[.map (some b)] 78)) w' := by
  have hbl := hown.lt
  have hk : ∀ x, (celM x).length = 2 := fun _ => rfl
  obtain ⟨W, hW⟩ : ∃ W, W = w.alloc (.cells #[.map (some b)] 78) := ⟨_, rfl⟩
  have hseq : SeqGives Fence.wide 4 Try.prog 105 #[.pointer (some ⟨w.heap.size, 0, none⟩)] encM (fun ss => KeysM D0 ss) (Maps.size D0) W := by
    rw [hW]
    exact givesM 4 (by omega) w.heap.size b nn D0 _ (by simp) (by simp) (by
      obtain ⟨es, clock, hb, Ft, hs, hD⟩ := hown
      exact ⟨es, clock, (Below.heap_alloc _ _ b hbl).trans hb, Ft, hs, hD⟩)
  rw [← hW]
  have qc := hide (collectM 105 _ (enters_of Try.func105 (by kernel_rfl) rfl) _ (Maps.size D0) (by unfold maxLen; omega) (by omega) W hseq.bounded)
  clear hseq hW hown
  go_enter Try.func53, Try.ntmps53
  go_wp2_with fail
  refine (unhide qc).mono ?_
  rintro e w1 ⟨v, ss, rfl, ⟨hS, hlen⟩, hrow, hnil, hb⟩
  clear qc
  rcases hrow.2 with ⟨rfl, hz⟩ | ⟨gb, cap, cur, rfl, hbase, hgb, r1, r2, r3, r4⟩
  · have hss : ss = [] := List.eq_nil_of_length_eq_zero hz
    subst hss
    have qn := hide (AnyF.slices_SortFunc_none Try.sortF84 none 0 (.func (.func 48) #[] #[]) w1)
    have O := hide hrow
    have B := hide hb
    have K := hide hS
    clear hrow hb hS hnil
    go_wp2_with fail
    refine (unhide qn).mono ?_
    rintro e w2 ⟨rfl, rfl⟩
    go_wp2_with fail
    go_ret
    exact ⟨.slice none 0 0, [], rfl, ⟨unhide K, List.Pairwise.nil⟩, unhide O, unhide B⟩
  · have hgl : gb < w1.heap.size := (Array.getElem?_eq_some_iff.1 hgb).1
    have qs := hide (AnyQ.slices_SortFunc Try.sortF84 2 Try.isAgg42 Try.sizeOf42 celM hk (fun x u hu => by simp [celM] at hu; rcases hu with rfl | rfl <;> rfl) cfN swoN 48 #[] gb 0 cap ss.toArray w1
      (enters_of Try.func48 (by kernel_rfl) rfl) (cmpLaysM gb 0 _ w1) (holdsK_of hk (by omega) hgb (by rw [r4]; rfl)) hgl (by simp; omega))
    have e1 : ss.toArray.size = ss.length := by simp
    rw [e1] at qs
    have F := hide (show ∀ d' n os, PermIn 0 ss.length ss.toArray d' → SortedIn (ltOf cfN) 0 ss.length d' → SrtM D0 d'.toList ∧ (sortWorldK celM 2 w1 gb 0 n d' os).ownsRow W.heap.size 42 2 (.slice (some ⟨gb, 0, none⟩) ss.length cap) d'.toList.length (celsM d'.toList) ∧ Below W.heap.size W (sortWorldK celM 2 w1 gb 0 n d' os) from fun d' n os hp hs => by
      rw [← e1] at hp hs
      obtain ⟨z1, z2, z3⟩ := perm_sorted hp hs
      refine ⟨⟨⟨z2.nodup_iff.2 hS.1, fun x => (z2.mem_iff).trans (hS.2 x)⟩, ?_⟩, ?_, hb.grown (sortedK_grown _) hb.size (fun j hj => by cases hj; exact hbase)⟩
      · refine (z3.and (z2.nodup_iff.2 hS.1)).imp fun {a b} h => ?_
        have h1 := h.1
        unfold ltOf at h1
        have h2 : ¬ a = b := h.2
        rcases cfN_tri a b with h3 | h3 | h3
        · exact h3
        · exact absurd h3 h2
        · exact absurd h3 (by simpa using h1)
      · have := sortedK_own (n := n) (os := os) (base := W.heap.size) hk (by omega) (ss := ss) (ts := d'.toList) z1 hbase hgb r1 r2 r3
        rw [z1]
        exact this)
    clear hS hlen hrow hnil hb hgb r1 r2 r3 r4 e1 hbase hgl
    generalize ss.length = N at qs F
    go_wp2_with fail
    refine (unhide qs).mono ?_
    rintro e w2 ⟨rfl, d', n, os, hp, hs, rfl⟩
    have G := hide (unhide F d' n os hp hs)
    have hN := hp.1
    clear F hp hs qs
    go_wp2_with fail
    go_ret
    exact ⟨_, d'.toList, rfl, (unhide G).1, (unhide G).2.1, (unhide G).2.2⟩
end Go.Proofs.Ytakjnbdjjeccoaa
