/- GSfN, GRea, one behind the other. -/
import Derived.Test.YtakjnbdjjeccoaaJ6
import Derived.Test.YtakjnbdjjeccoaaJ7
import Derived.Test.YtakjnbdjjeccoaaJ14
import Derived.Test.YtakjnbdjjeccoaaGSor
import Derived.Test.YtakjnbdjjeccoaaSf
import Derived.Test.YtakjnbdjjeccoaaJ4
import Derived.ProofKit
import Derived.Deep.Slices
import Derived.Laws.MakeOwn
import Derived.OwnWalk
/- impl.compareNests as slices.SortFunc asks it; slices.SortedFunc(maps.Keys(m), compareNests). -/
namespace Go.Proofs.Ytakjnbdjjeccoaa
open Go.RowKit Go.Maps Go.Sort Go.Shelf

/-- The order of nests. -/
def cfN (x y : Bs × Bs) : Int := cmpNe x.1 x.2 y.1 y.2
theorem cmpNe_lt (g m g' m' : Bs) : cmpNe g m g' m' < 0 ↔ cmpB g g' < 0 ∨ (g = g' ∧ cmpB m m' < 0) := by
  unfold cmpNe orI
  by_cases h : cmpB g g' = 0
  · rw [if_pos h]
    have e := cmpB_zero h
    constructor
    · exact fun k => .inr ⟨e, k⟩
    · rintro (k | ⟨_, k⟩)
      · omega
      · exact k
  · rw [if_neg h]
    constructor
    · exact fun k => .inl k
    · rintro (k | ⟨e, _⟩)
      · exact k
      · exact absurd (by rw [e]; unfold cmpB; exact cmpT_self _) h
theorem cmpB_tri (a b : Bs) : cmpB a b < 0 ∨ a = b ∨ cmpB b a < 0 := by
  rcases Int.lt_trichotomy (cmpB a b) 0 with h | h | h
  · exact .inl h
  · exact .inr (.inl (cmpB_zero h))
  · exact .inr (.inr (cmpB_anti h))
theorem cfN_lt (x y : Bs × Bs) : cfN x y < 0 ↔ cmpB x.1 y.1 < 0 ∨ (x.1 = y.1 ∧ cmpB x.2 y.2 < 0) := cmpNe_lt _ _ _ _
theorem cfN_irr (x : Bs × Bs) : ¬ cfN x x < 0 := by
  rw [cfN_lt]
  rintro (h | ⟨_, h⟩)
  · exact cmpB_irr _ h
  · exact cmpB_irr _ h
theorem cfN_tr (x y z : Bs × Bs) (h1 : cfN x y < 0) (h2 : cfN y z < 0) : cfN x z < 0 := by
  rw [cfN_lt] at *
  rcases h1 with h1 | ⟨e1, h1⟩ <;> rcases h2 with h2 | ⟨e2, h2⟩
  · exact .inl (cmpB_tr _ _ _ h1 h2)
  · exact .inl (e2 ▸ h1)
  · exact .inl (e1 ▸ h2)
  · exact .inr ⟨e1.trans e2, cmpB_tr _ _ _ h1 h2⟩
theorem cfN_tri (x y : Bs × Bs) : cfN x y < 0 ∨ x = y ∨ cfN y x < 0 := by
  rw [cfN_lt, cfN_lt]
  rcases cmpB_tri x.1 y.1 with h | h | h
  · exact .inl (.inl h)
  · rcases cmpB_tri x.2 y.2 with k | k | k
    · exact .inl (.inr ⟨h, k⟩)
    · exact .inr (.inl (Prod.ext h k))
    · exact .inr (.inr (.inr ⟨h.symm, k⟩))
  · exact .inr (.inr (.inl h))
theorem swoN : SWO (ltOf cfN) where
  irrefl x := by unfold ltOf; simpa using cfN_irr x
  trans x y z h1 h2 := by unfold ltOf at *; simp only [decide_eq_true_eq] at *; exact cfN_tr x y z h1 h2
  ntrans x y z h1 h2 := by
    unfold ltOf at *
    simp only [decide_eq_false_iff_not] at *
    intro h3
    rcases cfN_tri x y with h | h | h
    · exact h1 h
    · subst h; exact h2 h3
    · exact h2 (cfN_tr _ _ _ h h3)
theorem cmpLaysN (blk off size : Nat) (w : World) : CmpLays Try.prog 48 #[] celN 2 cfN blk off size w := fun m os dk _ x y => by
  exact (compareNests_gr x.1 x.2 y.1 y.2 _).mono fun e w' h => h
theorem cmpLaysM (blk off size : Nat) (w : World) : CmpLays Try.prog 48 #[] celM 2 cfN blk off size w := fun m os dk _ x y => by
  exact (compareNests_gr x.1 x.2 y.1 y.2 _).mono fun e w' h => h

/-- The list of the map's keys, rising. -/
structure SrtN {H : Type} (D0 : DataW H) (ss : List (Bs × Bs)) : Prop where
  keys : KeysN D0 ss
  ris : ss.Pairwise (fun a b => cfN a b < 0)

set_option maxRecDepth 100000 in
set_option maxHeartbeats 1000000 in
theorem sortedFuncN {H : Type} (b nn : Nat) (D0 : DataW H) {R : Value → Option (DataW H × List MemPlace)} (w : World) (hown : w.ownsMap Try.prog 42 R b nn D0) (hmax : Maps.size D0 ≤ 1000000) :
    Calls Try.prog 53 #[.func (.func 85) #[] #[.pointer (some ⟨w.heap.size, 0, none⟩)], .func (.func 48) #[] #[]] (w.alloc (.cells #[.map (some b)] 62)) fun e w' => ∃ (v : Value) (ss : List (Bs × Bs)), e = .returned v ∧ SrtN D0 ss ∧
      w'.ownsRow (w.alloc (.cells #[.map (some b)] 62)).heap.size 42 2 v ss.length (celsN ss) ∧ Below (w.alloc (.cells #[.map (some b)] 62)).heap.size (w.alloc (.cells #[.map (some b)] 62)) w' := by
  have hbl := hown.lt
  have hk : ∀ x, (celN x).length = 2 := fun _ => rfl
  obtain ⟨W, hW⟩ : ∃ W, W = w.alloc (.cells #[.map (some b)] 62) := ⟨_, rfl⟩
  have hseq : SeqGives Fence.wide 4 Try.prog 85 #[.pointer (some ⟨w.heap.size, 0, none⟩)] encN (fun ss => KeysN D0 ss) (Maps.size D0) W := by
    rw [hW]
    exact givesN 4 (by omega) w.heap.size b nn D0 _ (by simp) (by simp) (by
      obtain ⟨es, clock, hb, Ft, hs, hD⟩ := hown
      exact ⟨es, clock, (Below.heap_alloc _ _ b hbl).trans hb, Ft, hs, hD⟩)
  rw [← hW]
  have qc := hide (collectN 85 _ (enters_of Try.func85 (by kernel_rfl) rfl) _ (Maps.size D0) (by unfold maxLen; omega) (by omega) W hseq.bounded)
  clear hseq hW hown
  go_enter Try.func53, Try.ntmps53
  go_wp2_with fail
  refine (unhide qc).mono ?_
  rintro e w1 ⟨v, ss, rfl, ⟨hS, hlen⟩, hrow, hnil, hb⟩
  clear qc
  rcases hrow.2 with ⟨rfl, hz⟩ | ⟨gb, cap, cur, rfl, hbase, hgb, r1, r2, r3, r4⟩
  · have hss : ss = [] := List.eq_nil_of_length_eq_zero hz
    subst hss
    have qn := hide (AnyF.slices_SortFunc_none Try.sortF84 none 0 (.func (.func 48) #[] #[]) w1)
    have O := hide hrow
    have B := hide hb
    have K := hide hS
    clear hrow hb hS hnil
    go_wp2_with fail
    refine (unhide qn).mono ?_
    rintro e w2 ⟨rfl, rfl⟩
    go_wp2_with fail
    go_ret
    exact ⟨.slice none 0 0, [], rfl, ⟨unhide K, List.Pairwise.nil⟩, unhide O, unhide B⟩
  · have hgl : gb < w1.heap.size := (Array.getElem?_eq_some_iff.1 hgb).1
    have qs := hide (AnyQ.slices_SortFunc Try.sortF84 2 Try.isAgg42 Try.sizeOf42 celN hk (fun x u hu => by simp [celN] at hu; rcases hu with rfl | rfl <;> rfl) cfN swoN 48 #[] gb 0 cap ss.toArray w1
      (enters_of Try.func48 (by kernel_rfl) rfl) (cmpLaysN gb 0 _ w1) (holdsK_of hk (by omega) hgb (by rw [r4]; rfl)) hgl (by simp; omega))
    have e1 : ss.toArray.size = ss.length := by simp
    rw [e1] at qs
    have F := hide (show ∀ d' n os, PermIn 0 ss.length ss.toArray d' → SortedIn (ltOf cfN) 0 ss.length d' → SrtN D0 d'.toList ∧ (sortWorldK celN 2 w1 gb 0 n d' os).ownsRow W.heap.size 42 2 (.slice (some ⟨gb, 0, none⟩) ss.length cap) d'.toList.length (celsN d'.toList) ∧ Below W.heap.size W (sortWorldK celN 2 w1 gb 0 n d' os) from fun d' n os hp hs => by
      rw [← e1] at hp hs
      obtain ⟨z1, z2, z3⟩ := perm_sorted hp hs
      refine ⟨⟨⟨z2.nodup_iff.2 hS.1, fun x => (z2.mem_iff).trans (hS.2 x)⟩, ?_⟩, ?_, hb.grown (sortedK_grown _) hb.size (fun j hj => by cases hj; exact hbase)⟩
      · refine (z3.and (z2.nodup_iff.2 hS.1)).imp fun {a b} h => ?_
        have h1 := h.1
        unfold ltOf at h1
        have h2 : ¬ a = b := h.2
        rcases cfN_tri a b with h3 | h3 | h3
        · exact h3
        · exact absurd h3 h2
        · exact absurd h3 (by simpa using h1)
      · have := sortedK_own (n := n) (os := os) (base := W.heap.size) hk (by omega) (ss := ss) (ts := d'.toList) z1 hbase hgb r1 r2 r3
        rw [z1]
        exact this)
    clear hS hlen hrow hnil hb hgb r1 r2 r3 r4 e1 hbase hgl
    generalize ss.length = N at qs F
    go_wp2_with fail
    refine (unhide qs).mono ?_
    rintro e w2 ⟨rfl, d', n, os, hp, hs, rfl⟩
    have G := hide (unhide F d' n os hp hs)
    have hN := hp.1
    clear F hp hs qs
    go_wp2_with fail
    go_ret
    exact ⟨_, d'.toList, rfl, (unhide G).1, (unhide G).2.1, (unhide G).2.2⟩

/-- The list of the map's keys, rising. -/
structure SrtM {H : Type} (D0 : DataW H) (ss : List (Bs × Bs)) : Prop where
  keys : KeysM D0 ss
  ris : ss.Pairwise (fun a b => cfN a b < 0)

set_option maxRecDepth 100000 in
set_option maxHeartbeats 1000000 in
theorem sortedFuncM {H : Type} (b nn : Nat) (D0 : DataW H) {R : Value → Option (DataW H × List MemPlace)} (w : World) (hown : w.ownsMap Try.prog 42 R b nn D0) (hmax : Maps.size D0 ≤ 1000000) :
    Calls Try.prog 53 #[.func (.func 105) #[] #[.pointer (some ⟨w.heap.size, 0, none⟩)], .func (.func 48) #[] #[]] (w.alloc (.cells #[.map (some b)] 78)) fun e w' => ∃ (v : Value) (ss : List (Bs × Bs)), e = .returned v ∧ SrtM D0 ss ∧
      w'.ownsRow (w.alloc (.cells #[.map (some b)] 78)).heap.size 42 2 v ss.length (celsM ss) ∧ Below (w.alloc (.cells #[.map (some b)] 78)).heap.size (w.alloc (.cells #[.map (some b)] 78)) w' := by
  have hbl := hown.lt
  have hk : ∀ x, (celM x).length = 2 := fun _ => rfl
  obtain ⟨W, hW⟩ : ∃ W, W = w.alloc (.cells #[.map (some b)] 78) := ⟨_, rfl⟩
  have hseq : SeqGives Fence.wide 4 Try.prog 105 #[.pointer (some ⟨w.heap.size, 0, none⟩)] encM (fun ss => KeysM D0 ss) (Maps.size D0) W := by
    rw [hW]
    exact givesM 4 (by omega) w.heap.size b nn D0 _ (by simp) (by simp) (by
      obtain ⟨es, clock, hb, Ft, hs, hD⟩ := hown
      exact ⟨es, clock, (Below.heap_alloc _ _ b hbl).trans hb, Ft, hs, hD⟩)
  rw [← hW]
  have qc := hide (collectM 105 _ (enters_of Try.func105 (by kernel_rfl) rfl) _ (Maps.size D0) (by unfold maxLen; omega) (by omega) W hseq.bounded)
  clear hseq hW hown
  go_enter Try.func53, Try.ntmps53
  go_wp2_with fail
  refine (unhide qc).mono ?_
  rintro e w1 ⟨v, ss, rfl, ⟨hS, hlen⟩, hrow, hnil, hb⟩
  clear qc
  rcases hrow.2 with ⟨rfl, hz⟩ | ⟨gb, cap, cur, rfl, hbase, hgb, r1, r2, r3, r4⟩
  · have hss : ss = [] := List.eq_nil_of_length_eq_zero hz
    subst hss
    have qn := hide (AnyF.slices_SortFunc_none Try.sortF84 none 0 (.func (.func 48) #[] #[]) w1)
    have O := hide hrow
    have B := hide hb
    have K := hide hS
    clear hrow hb hS hnil
    go_wp2_with fail
    refine (unhide qn).mono ?_
    rintro e w2 ⟨rfl, rfl⟩
    go_wp2_with fail
    go_ret
    exact ⟨.slice none 0 0, [], rfl, ⟨unhide K, List.Pairwise.nil⟩, unhide O, unhide B⟩
  · have hgl : gb < w1.heap.size := (Array.getElem?_eq_some_iff.1 hgb).1
    have qs := hide (AnyQ.slices_SortFunc Try.sortF84 2 Try.isAgg42 Try.sizeOf42 celM hk (fun x u hu => by simp [celM] at hu; rcases hu with rfl | rfl <;> rfl) cfN swoN 48 #[] gb 0 cap ss.toArray w1
      (enters_of Try.func48 (by kernel_rfl) rfl) (cmpLaysM gb 0 _ w1) (holdsK_of hk (by omega) hgb (by rw [r4]; rfl)) hgl (by simp; omega))
    have e1 : ss.toArray.size = ss.length := by simp
    rw [e1] at qs
    have F := hide (show ∀ d' n os, PermIn 0 ss.length ss.toArray d' → SortedIn (ltOf cfN) 0 ss.length d' → SrtM D0 d'.toList ∧ (sortWorldK celM 2 w1 gb 0 n d' os).ownsRow W.heap.size 42 2 (.slice (some ⟨gb, 0, none⟩) ss.length cap) d'.toList.length (celsM d'.toList) ∧ Below W.heap.size W (sortWorldK celM 2 w1 gb 0 n d' os) from fun d' n os hp hs => by
      rw [← e1] at hp hs
      obtain ⟨z1, z2, z3⟩ := perm_sorted hp hs
      refine ⟨⟨⟨z2.nodup_iff.2 hS.1, fun x => (z2.mem_iff).trans (hS.2 x)⟩, ?_⟩, ?_, hb.grown (sortedK_grown _) hb.size (fun j hj => by cases hj; exact hbase)⟩
      · refine (z3.and (z2.nodup_iff.2 hS.1)).imp fun {a b} h => ?_
        have h1 := h.1
        unfold ltOf at h1
        have h2 : ¬ a = b := h.2
        rcases cfN_tri a b with h3 | h3 | h3
        · exact h3
        · exact absurd h3 h2
        · exact absurd h3 (by simpa using h1)
      · have := sortedK_own (n := n) (os := os) (base := W.heap.size) hk (by omega) (ss := ss) (ts := d'.toList) z1 hbase hgb r1 r2 r3
        rw [z1]
        exact this)
    clear hS hlen hrow hnil hb hgb r1 r2 r3 r4 e1 hbase hgl
    generalize ss.length = N at qs F
    go_wp2_with fail
    refine (unhide qs).mono ?_
    rintro e w2 ⟨rfl, d', n, os, hp, hs, rfl⟩
    have G := hide (unhide F d' n os hp hs)
    have hN := hp.1
    clear F hp hs qs
    go_wp2_with fail
    go_ret
    exact ⟨_, d'.toList, rfl, (unhide G).1, (unhide G).2.1, (unhide G).2.2⟩
end Go.Proofs.Ytakjnbdjjeccoaa
/- Slices of impl.Reach: in memory, read, sized, copied, held against each other. -/
namespace Go.Proofs.Ytakjnbdjjeccoaa
open Go.ChangeShapes Go.WideShapes Go.RowKit

structure ReachT where
  f0 : ByteArray
  f1 : ByteArray
  f2 : Int
structure ReachT.Ok (x : ReachT) : Prop where
  o0 : x.f0.size ≤ maxLen
  o1 : x.f1.size ≤ maxLen
  o2 : (Lit.int .i64 x.f2).wf = true
def encReach (x : ReachT) : List Value := [.string x.f0, .string x.f1, .int .i64 x.f2]
structure ReachRow (w : World) (b off : Nat) (l : List ReachT) : Prop where
  z : b < w.heap.size
  c0 : ∀ i (h : i < l.length), w.cell? ⟨b, off + i * 3, none⟩ = some (.string l[i].f0)
  c1 : ∀ i (h : i < l.length), w.cell? ⟨b, off + i * 3 + 1, none⟩ = some (.string l[i].f1)
  c2 : ∀ i (h : i < l.length), w.cell? ⟨b, off + i * 3 + 2, none⟩ = some (.int .i64 l[i].f2)
theorem ReachRow.keep {w w1 : World} {b off : Nat} {l : List ReachT} (h : ReachRow w b off l) (hb : Below w.heap.size w w1) : ReachRow w1 b off l :=
  ⟨Nat.lt_of_lt_of_le h.z hb.size, fun i hi => cellB hb h.z (h.c0 i hi), fun i hi => cellB hb h.z (h.c1 i hi), fun i hi => cellB hb h.z (h.c2 i hi)⟩
def SlReach (w : World) (a : Option Addr) (len : Nat) (l : List ReachT) : Prop := len = l.length ∧ (l = [] ∨ ∃ b off, a = some ⟨b, off, none⟩ ∧ ReachRow w b off l)
theorem SlReach.keep {w w1 : World} {a : Option Addr} {len : Nat} {l : List ReachT} (h : SlReach w a len l) (hb : Below w.heap.size w w1) : SlReach w1 a len l :=
  ⟨h.1, by
    rcases h.2 with e | ⟨b, off, e, r⟩
    · exact .inl e
    · exact .inr ⟨b, off, e, r.keep hb⟩⟩
theorem SlReach.at {w : World} {a : Option Addr} {len : Nat} {l : List ReachT} (h : SlReach w a len l) {k : Nat} (hk : k < len) : ∃ b off, a = some ⟨b, off, none⟩ ∧ ReachRow w b off l := by
  rcases h.2 with e | e
  · rw [h.1, e] at hk; simp at hk
  · exact e
theorem bStReach {w w' : World} (h : Below w.heap.size w w') (b o : Nat) (hb : w.heap.size ≤ b) (v : Value) : Below w.heap.size w (w'.setCell ⟨b, o, none⟩ v) := h.setCell hb v
set_option maxHeartbeats 400000 in
theorem toReach_any (f0 : ByteArray) (f1 : ByteArray) (f2 : Int) (w : World) :
    Calls Try.prog 59 #[.agg #[.string f0, .string f1, .int .i64 f2]] w fun e w' => e = .returned (.agg #[.string f0, .string f1, .int .i64 f2]) ∧ Below w.heap.size w w' := by
  go_enter Try.func59, Try.ntmps59
  go_wp2
  exact bodyPost_ret (v := .agg #[.string f0, .string f1, .int .i64 f2]) (by simp [results, Try.results59, go_sem]) rfl ⟨rfl, bAl (bAl (bAl (Below.refl _ _) _) _) _⟩
set_option maxHeartbeats 400000 in
theorem eqReach_same (f0 : ByteArray) (f1 : ByteArray) (f2 : Int) (w : World) :
    Calls Try.prog 55 #[.agg #[.string f0, .string f1, .int .i64 f2], .agg #[.string f0, .string f1, .int .i64 f2]] w fun e w' => e = .returned (.bool true) ∧ Below w.heap.size w w' := by
  go_enter Try.func55, Try.ntmps55
  go_wp2
  go_ret
  exact ⟨rfl, bAl (bAl (Below.refl _ _) _) _⟩
set_option maxHeartbeats 400000 in
theorem szReach_any (f0 : ByteArray) (f1 : ByteArray) (f2 : Int) (l : Int) (w : World) (h0 : 0 ≤ l) (h1 : l ≤ 1048576) (s0 : f0.size ≤ maxLen) (s1 : f1.size ≤ maxLen) :
    Calls Try.prog 57 #[.agg #[.string f0, .string f1, .int .i64 f2], .int .i64 l] w fun e w' => (∃ m : Int, -1 ≤ m ∧ m ≤ l ∧ e = .returned (.int .i64 m)) ∧ Below w.heap.size w w' := by
  unfold maxLen at s0 s1
  go_enter Try.func57, Try.ntmps57
  go_wp2
  all_goals go_ret
  all_goals exact ⟨⟨_, by omega, by omega, rfl⟩, bAl (Below.refl _ _) _⟩
set_option maxHeartbeats 400000 in
theorem szReachS_any (a : Option Addr) (len cap : Nat) (l : List ReachT) (left : Int) (w : World) (h0 : 0 ≤ left) (h1 : left ≤ 1048576) (hl : len ≤ maxLen) (hs : SlReach w a len l) (hok : ∀ q ∈ l, ReachT.Ok q) :
    Calls Try.prog 22 #[.slice a len cap, .int .i64 left] w fun e w' => (∃ m : Int, -1 ≤ m ∧ m ≤ left ∧ (0 ≤ m → (len : Int) ≤ left) ∧ e = .returned (.int .i64 m)) ∧ Below w.heap.size w w' := by
  unfold maxLen at hl
  by_cases hlen : left < (len : Int)
  · clear hs hok
    go_enter Try.func22, Try.ntmps22
    go_wp2
    go_ret
    exact ⟨⟨-1, by omega, by omega, by omega, rfl⟩, Below.refl _ _⟩
  have d1 : decide (left - (len : Int) < 0) = false := by simp; omega
  have HS := hide hs
  clear hs
  go_enter Try.func22, Try.ntmps22
  go_wp2
  go_loopw [1, 5] (fun m i w' => ∃ (k : Nat) (q : Int), k ≤ len ∧ 0 ≤ q ∧ q ≤ left ∧ i = .int .i64 k ∧ m = .int .i64 q ∧ Below w.heap.size w w') (fun _ i _ => len - (Go.RowKit.intOf i).toNat)
  case atStart => exact ⟨0, _, Nat.zero_le _, by omega, by omega, rfl, rfl, Below.refl _ _⟩
  case round =>
    obtain ⟨k, q, hk, hq1, hq2, rfl, rfl, hbel⟩ := hrel
    by_cases hlt : k < len
    · obtain ⟨b, off, rfl, hrow⟩ := ((unhide HS).keep hbel).at hlt
      have hk' : k < l.length := by rw [← (unhide HS).1]; exact hlt
      have c0 := hrow.c0 k hk'
      have c1 := hrow.c1 k hk'
      have c2 := hrow.c2 k hk'
      have ho := hok _ (List.getElem_mem hk')
      have hz := hide (fun q w h0 h1 => szReach_any (l[k]).f0 (l[k]).f1 (l[k]).f2 q w h0 h1 ho.o0 ho.o1)
      clear hrow ho hok
      generalize l[k] = A at hz c0 c1 c2
      go_wp2_with fail
      refine (unhide hz _ _ (by omega) (by omega)).mono ?_
      rintro e w1 ⟨⟨m, hm1, hm2, rfl⟩, hb1⟩
      by_cases hm : m < 0
      · go_wp2_with fail
        go_ret
        exact ⟨⟨-1, by omega, by omega, by omega, rfl⟩, bTr hbel hb1⟩
      · go_wp2_with fail
        exact ⟨⟨k + 1, m, by omega, by omega, by omega, by go_num, rfl, bTr hbel hb1⟩, by simp [Go.RowKit.intOf]; omega⟩
    · go_wp2_with fail
      go_ret
      exact ⟨⟨q, by omega, by omega, by omega, rfl⟩, hbel⟩
theorem info_Reach : (Try.prog.info? 70).map (fun i => (i.zero, i.size, i.bytes)) = some (some (.agg #[.string ByteArray.empty, .string ByteArray.empty, .int .i64 0]), 3, 40) := by kernel_rfl
theorem make_Reach (len : Nat) (w : World) (h : len ≤ 1048576) : ∃ w1 C, (Instr.makeSlice 29 (.int .i64 (len : Int)) (.int .i64 (len : Int))).run Try.prog w = .ok (.slice (some ⟨w.heap.size, 0, none⟩) len len) w1 ∧
    Below w.heap.size w w1 ∧ RowIs w1 w.heap.size C 70 ∧ C.size = len * 3 := by
  obtain ⟨i, h1, h2⟩ := Option.map_eq_some_iff.1 info_Reach
  simp only [Prod.mk.injEq] at h2
  obtain ⟨hz, hsz, hby⟩ := h2
  have hr := run_make (P := Try.prog) w 29 70 i _ Try.underlying29 h1 hz .i64 .i64 (len : Int) (len : Int) (by omega) (by omega) (by rw [hby]; omega) (by omega)
  rw [Int.toNat_natCast, hsz] at hr
  exact ⟨_, _, hr, bAl (Below.refl _ _) _, RowIs.new _ _ _, size_madeCells _ _⟩
def FilledReach (C : Array Value) (l : List ReachT) (k : Nat) : Prop := ∀ i (h : i < l.length), i < k → C[i * 3]? = some (.string l[i].f0) ∧ C[i * 3 + 1]? = some (.string l[i].f1) ∧ C[i * 3 + 2]? = some (.int .i64 l[i].f2)
def setReach (C : Array Value) (k : Nat) (x : ReachT) : Array Value := (((C.setIfInBounds (k * 3) (.string x.f0)).setIfInBounds (k * 3 + 1) (.string x.f1)).setIfInBounds (k * 3 + 2) (.int .i64 x.f2))
theorem size_setReach (C : Array Value) (k : Nat) (x : ReachT) : (setReach C k x).size = C.size := by simp [setReach]
theorem FilledReach.set {C : Array Value} {l : List ReachT} {k : Nat} (h : FilledReach C l k) (hk : k < l.length) (hC : C.size = l.length * 3) : FilledReach (setReach C k l[k]) l (k + 1) := by
  intro i hi hik
  unfold setReach
  by_cases e : i = k
  · subst e
    have s0 : i * 3 < C.size := by omega
    have s1 : i * 3 + 1 < C.size := by omega
    have s2 : i * 3 + 2 < C.size := by omega
    simp [s0, s1, s2]
  · have := h i hi (by omega)
    simp only [Array.getElem?_setIfInBounds]
    repeat rw [if_neg (by omega)]
    exact this
theorem FilledReach.row {w : World} {b : Nat} {C : Array Value} {T : TypeId} {l : List ReachT} (h : FilledReach C l l.length) (hr : RowIs w b C T) : ReachRow w b 0 l :=
  ⟨hr.lt, fun i hi => by rw [Nat.zero_add, hr.cell]; exact (h i hi hi).1, fun i hi => by rw [Nat.zero_add, hr.cell]; exact (h i hi hi).2.1, fun i hi => by rw [Nat.zero_add, hr.cell]; exact (h i hi hi).2.2⟩
set_option maxRecDepth 100000 in
set_option maxHeartbeats 1000000 in
theorem toReachS_own (a : Option Addr) (len cap : Nat) (l : List ReachT) (w : World) (hl : len ≤ 1048576) (hs : SlReach w a len l) :
    Calls Try.prog 25 #[.slice a len cap] w fun e w' => e = .returned (.slice (some ⟨w.heap.size, 0, none⟩) len len) ∧ (∃ C, RowIs w' w.heap.size C 70 ∧ C.size = len * 3 ∧ ReachRow w' w.heap.size 0 l) ∧ Below w.heap.size w w' := by
  obtain ⟨w1, C1, hrun, hb1, hr1, hC1⟩ := make_Reach len w hl
  have HS := hide hs
  have HB1 := hide hb1
  have HR1 := hide hr1
  clear hs hb1 hr1
  go_enter Try.func25, Try.ntmps25
  go_wp2
  clear hrun
  go_loopw [4] (fun i w' => ∃ (k : Nat) (C : Array Value), k ≤ len ∧ i = .int .i64 k ∧ Hid (Below w.heap.size w w') ∧ Hid (RowIs w' w.heap.size C 70) ∧ Hid (C.size = len * 3) ∧ Hid (FilledReach C l k)) (fun i _ => len - (Go.RowKit.intOf i).toNat)
  case atStart => exact ⟨0, C1, Nat.zero_le _, rfl, HB1, HR1, hide hC1, hide (fun i _ h => absurd h (Nat.not_lt_zero _))⟩
  case round =>
    obtain ⟨k, C, hk, rfl, hb, hr, hC, hF⟩ := hrel
    by_cases hlt : k < len
    · obtain ⟨b, off, rfl, hrow⟩ := ((unhide HS).keep (unhide hb)).at hlt
      have hk' : k < l.length := by rw [← (unhide HS).1]; exact hlt
      have c0 := hrow.c0 k hk'
      have c1 := hrow.c1 k hk'
      have c2 := hrow.c2 k hk'
      have hF' := hide ((unhide hF).set hk' (by rw [unhide hC, (unhide HS).1]))
      clear hrow hC1
      generalize l[k] = A at c0 c1 c2 hF'
      go_wp2_with fail
      refine (toReach_any A.f0 A.f1 A.f2 _).mono ?_
      rintro e w2 ⟨rfl, hb2⟩
      replace hr := hide ((unhide hr).keep hb2)
      replace hb := hide (bTr (unhide hb) hb2)
      have s9 : k * 3 + 2 < C.size := by rw [unhide hC]; omega
      obtain ⟨D0, d0⟩ : ∃ D, C[k * 3]? = some D := ⟨_, Array.getElem?_eq_getElem (by omega)⟩
      have g0 := (unhide hr).at d0
      have y0 := (unhide hr).froz (k * 3)
      clear d0
      obtain ⟨D1, d1⟩ : ∃ D, C[k * 3 + 1]? = some D := ⟨_, Array.getElem?_eq_getElem (by omega)⟩
      have g1 := (unhide hr).at d1
      have y1 := (unhide hr).froz (k * 3 + 1)
      clear d1
      obtain ⟨D2, d2⟩ : ∃ D, C[k * 3 + 2]? = some D := ⟨_, Array.getElem?_eq_getElem (by omega)⟩
      have g2 := (unhide hr).at d2
      have y2 := (unhide hr).froz (k * 3 + 2)
      clear d2
      clear c0 c1 c2 hb2
      go_wp2_with fail
      refine ⟨⟨k + 1, setReach C k A, by omega, by go_num, hide ?_, hide ?_, hide (by rw [size_setReach]; exact unhide hC), hF'⟩, by simp [Go.RowKit.intOf]; omega⟩
      · repeat refine bStReach ?_ _ _ (Nat.le_refl _) _
        exact unhide hb
      · exact (((unhide hr).set _ _).set _ _).set _ _
    · go_wp2_with fail
      go_ret
      have e : k = l.length := by rw [← (unhide HS).1]; omega
      exact ⟨rfl, ⟨C, unhide hr, unhide hC, FilledReach.row (by rw [← e]; exact unhide hF) (unhide hr)⟩, unhide hb⟩
set_option maxHeartbeats 1000000 in
theorem eqReachS_same (a1 a2 : Option Addr) (len1 c1 len2 c2 : Nat) (l : List ReachT) (w : World) (h1 : SlReach w a1 len1 l) (h2 : SlReach w a2 len2 l) (hm : len1 ≤ maxLen) :
    Calls Try.prog 18 #[.slice a1 len1 c1, .slice a2 len2 c2] w fun e w' => e = .returned (.bool true) ∧ Below w.heap.size w w' := by
  unfold maxLen at hm
  obtain rfl : len1 = len2 := by rw [h1.1, h2.1]
  have H1 := hide h1
  have H2 := hide h2
  clear h1 h2
  go_enter Try.func18, Try.ntmps18
  go_wp2
  go_loopw [5] (fun i w' => ∃ k : Nat, k ≤ len1 ∧ i = .int .i64 k ∧ Below w.heap.size w w') (fun i _ => len1 - (Go.RowKit.intOf i).toNat)
  case atStart => exact ⟨0, Nat.zero_le _, rfl, Below.refl _ _⟩
  case round =>
    obtain ⟨k, hk, rfl, hbel⟩ := hrel
    by_cases hlt : k < len1
    · have g1 := hide ((unhide H1).keep hbel)
      have g2 := hide ((unhide H2).keep hbel)
      have hk' : k < l.length := by rw [← (unhide H1).1]; exact hlt
      obtain ⟨b, off, rfl, r1⟩ := (unhide g1).at hlt
      obtain ⟨b', off', rfl, r2⟩ := (unhide g2).at hlt
      have p0 := r1.c0 k hk'
      have p1 := r1.c1 k hk'
      have p2 := r1.c2 k hk'
      have q0 := r2.c0 k hk'
      have q1 := r2.c1 k hk'
      have q2 := r2.c2 k hk'
      have z1 := r1.z
      have z2 := r2.z
      clear r1 r2 g1 g2
      generalize l[k] = A at p0 p1 p2 q0 q1 q2
      have ne : Nonempty (Kept wr) := ⟨⟨wr, Below.refl _ _⟩⟩
      have x0 := kept_cell z1 p0
      have x1 := kept_cell z1 p1
      have x2 := kept_cell z1 p2
      have y0 := kept_cell z2 q0
      have y1 := kept_cell z2 q1
      have y2 := kept_cell z2 q2
      have i0 : (0 : Int) ≤ (k : Int) := by omega
      have i1 : (k : Int) < (len1 : Int) := by omega
      go_wp2_with fail
      refine wp_region_kept (by kernel_rfl) (by kernel_rfl) ?_
      repeat (first
        | go_big_quiet_step ((go_at_call 55; exact kept_call (eqReach_same _ _ _ _)))
        | quiet_step ((go_at_call 55; exact kept_call (eqReach_same _ _ _ _))))
      refine wpQuiet_nil ?_
      rintro _ ⟨q, rfl⟩
      clear ne x0 x1 x2 y0 y1 y2
      obtain ⟨w3, hb3⟩ := q
      go_wp2_with fail
      exact ⟨⟨k + 1, by omega, by go_num, bTr hbel hb3⟩, by simp [Go.RowKit.intOf]; omega⟩
    · go_wp2_with fail
      go_ret
      exact ⟨rfl, hbel⟩
def ReachsV (l : List ReachT) : List Value := l.flatMap encReach
theorem ReachsV_snoc (l : List ReachT) (c : ReachT) : ReachsV (l ++ [c]) = ReachsV l ++ encReach c := by simp [ReachsV]
theorem encReach_one (c : ReachT) : ∀ x ∈ encReach c, x.oneCell' = true := by
  intro x hx
  simp [encReach] at hx
  rcases hx with rfl | rfl | rfl <;> rfl
theorem ReachsV_get : ∀ (l : List ReachT) (i : Nat) (h : i < l.length) (j : Nat) (v : Value), (encReach l[i])[j]? = some v → (ReachsV l)[i * 3 + j]? = some v
  | [], i, h, _, _, _ => absurd h (Nat.not_lt_zero _)
  | c :: l, 0, _, j, v, hv => by
    have hj := (List.getElem?_eq_some_iff.1 hv).1
    have e : ReachsV (c :: l) = encReach c ++ ReachsV l := by simp [ReachsV]
    rw [e, List.getElem?_append_left (by simpa using hj)]
    simpa using hv
  | c :: l, i + 1, h, j, v, hv => by
    have e : ReachsV (c :: l) = encReach c ++ ReachsV l := by simp [ReachsV]
    have hl : (encReach c).length = 3 := rfl
    rw [e, List.getElem?_append_right (by rw [hl]; omega), hl, show (i + 1) * 3 + j - 3 = i * 3 + j by omega]
    exact ReachsV_get l i (by simpa using h) j v (by simpa using hv)
theorem own_Reach {w : World} {base : Nat} {v : Value} {l : List ReachT} (h : w.ownsRow base 70 3 v l.length (ReachsV l)) : ∃ a cap, v = .slice a l.length cap ∧ SlReach w a l.length l := by
  rcases h.2 with ⟨rfl, e⟩ | ⟨g, cap, cur, rfl, _, hh, _, _, hsz, htk⟩
  · have : l = [] := List.length_eq_zero_iff.1 e
    subst this
    exact ⟨none, 0, rfl, rfl, .inl rfl⟩
  · have hr : RowIs w g cur 70 := hh
    have hc : ∀ i (hi : i < l.length) j u, (encReach l[i])[j]? = some u → w.cell? ⟨g, 0 + i * 3 + j, none⟩ = some u := fun i hi j u hu => by
      have hu2 := ReachsV_get l i hi j u hu
      rw [← htk, List.getElem?_take] at hu2
      rw [Nat.zero_add, hr.cell, ← Array.getElem?_toList]
      split at hu2
      · exact hu2
      · cases hu2
    exact ⟨_, _, rfl, rfl, .inr ⟨g, 0, rfl, hr.lt, fun i hi => hc i hi 0 _ rfl, fun i hi => hc i hi 1 _ rfl, fun i hi => hc i hi 2 _ rfl⟩⟩
theorem eqOwnReach {w : World} {b1 b2 : Nat} {v1 v2 : Value} {l : List ReachT} (h1 : w.ownsRow b1 70 3 v1 l.length (ReachsV l)) (h2 : w.ownsRow b2 70 3 v2 l.length (ReachsV l)) (hl : l.length ≤ 1000000) :
    Calls Try.prog 18 #[v1, v2] w fun e w' => e = .returned (.bool true) ∧ Below w.heap.size w w' := by
  obtain ⟨a1, c1, rfl, s1⟩ := own_Reach h1
  obtain ⟨a2, c2, rfl, s2⟩ := own_Reach h2
  exact eqReachS_same a1 a2 l.length c1 l.length c2 l w s1 s2 (by unfold maxLen; omega)
theorem listnReach {α : Type} {l : List α} (h : l.length = 3) : ∃ a0 a1 a2, l = [a0, a1, a2] := by
  match l, h with
  | [a0, a1, a2], _ => exact ⟨a0, a1, a2, rfl⟩
section
variable {H : Type} {enc : TypeId × Value → H} {w : World} {base : Nat} {sp : Nat → Bool} {held : Bool}
theorem addr_Reach (b off k : Nat) : (⟨b, off, none⟩ : Addr).add k = ⟨b, off + k, none⟩ := by
  unfold Addr.add; split <;> simp_all
set_option maxRecDepth 100000 in
theorem read_Reach {n : Nat} {cs : List Value} {x : DataW H × List MemPlace} (h : DataW.trod enc Try.prog w base sp held n 74 cs = some x) : ∃ A : ReachT, cs = [.string A.f0, .string A.f1, .int .i64 A.f2] ∧ A.Ok := by
  obtain ⟨xs, m, rfl, _, hlen, hx, hf⟩ := DataW.trod_struct Try.underlying74 h
  have hc : Try.prog.cellsOf 74 = 3 := by kernel_rfl
  have k9 : Try.prog.cellsOf 9 = 1 := by kernel_rfl
  have k3 : Try.prog.cellsOf 3 = 1 := by kernel_rfl
  obtain ⟨c0, c1, c2, rfl⟩ := listnReach (hlen.trans hc)
  obtain ⟨x0, x1, x2, rfl⟩ := listnReach hx
  have h0 : DataW.trod enc Try.prog w base sp held m 9 [c0] = some x0 := by have := hf 0 _ rfl; simpa [k9, k3] using this
  obtain ⟨y0, e0, _, ok0⟩ := DataW.trod_string Try.underlying9 h0
  have h1 : DataW.trod enc Try.prog w base sp held m 9 [c1] = some x1 := by have := hf 1 _ rfl; simpa [k9, k3] using this
  obtain ⟨y1, e1, _, ok1⟩ := DataW.trod_string Try.underlying9 h1
  have h2 : DataW.trod enc Try.prog w base sp held m 3 [c2] = some x2 := by have := hf 2 _ rfl; simpa [k9, k3] using this
  obtain ⟨y2, e2, _, ok2⟩ := DataW.trod_int Try.underlying3 h2
  simp at e0 e1 e2
  subst e0 e1 e2
  exact ⟨⟨y0, y1, y2⟩, rfl, ok0, ok1, ok2⟩
set_option maxRecDepth 100000 in
theorem reads_Reach {n len cap : Nat} {a : Option Addr} {x : DataW H × List MemPlace} (h : DataW.trod enc Try.prog w base sp held n 34 [.slice a len cap] = some x) :
    ∃ l : List ReachT, SlReach w a len l ∧ (∀ q ∈ l, ReachT.Ok q) ∧ len ≤ maxLen := by
  have hc : Try.prog.cellsOf 74 = 3 := by kernel_rfl
  rcases Go.Deep.open_slice Try.underlying34 h with ⟨hcs, _⟩ | ⟨a', len', cap', m, n', D, Pl, hcs, _, hl, hm, hmm, _, hel⟩
  · simp at hcs
    obtain ⟨rfl, rfl, rfl⟩ := hcs
    exact ⟨[], ⟨rfl, .inl rfl⟩, by simp, Nat.zero_le _⟩
  · simp at hcs
    obtain ⟨rfl, rfl, rfl⟩ := hcs
    have hlm : len ≤ m := by rw [hmm]; split <;> omega
    by_cases h0 : len = 0
    · subst h0; exact ⟨[], ⟨rfl, .inl rfl⟩, by simp, Nat.zero_le _⟩
    have hspot : a'.spot = none := by
      obtain ⟨cs', h1, h2⟩ := hel 0 (by omega)
      rw [hc] at h1
      obtain ⟨A, rfl, _⟩ := read_Reach h2
      have e0 := (World.cells?_some h1).2.2 0 (by omega)
      simp [Addr.add] at e0
      exact World.cell?_spot e0
    obtain ⟨b, off, spot⟩ := a'
    simp only at hspot
    subst hspot
    have hA : ∀ i, i < len → ∃ A : ReachT, A.Ok ∧ (w.cell? ⟨b, off + i * 3, none⟩ = some (.string A.f0) ∧ w.cell? ⟨b, off + i * 3 + 1, none⟩ = some (.string A.f1) ∧ w.cell? ⟨b, off + i * 3 + 2, none⟩ = some (.int .i64 A.f2)) ∧ b < w.heap.size := by
      intro i hi
      obtain ⟨cs', h1, h2⟩ := hel i (by omega)
      rw [hc, addr_Reach] at h1
      obtain ⟨A, rfl, hok⟩ := read_Reach h2
      have h3 := (World.cells?_some h1).2.2
      have e0 := h3 0 (by omega)
      have e1 := h3 1 (by omega)
      have e2 := h3 2 (by omega)
      rw [addr_Reach] at e0 e1 e2
      exact ⟨A, hok, ⟨e0, e1, e2⟩, World.block_lt_of_cell? w ⟨b, off + i * 3 + 0, none⟩ e0⟩
    obtain ⟨f, hf⟩ := @Go.Deep.choose_lt ReachT ⟨⟨⟨#[]⟩, ⟨#[]⟩, 0⟩⟩ len (fun i A => A.Ok ∧ (w.cell? ⟨b, off + i * 3, none⟩ = some (.string A.f0) ∧ w.cell? ⟨b, off + i * 3 + 1, none⟩ = some (.string A.f1) ∧ w.cell? ⟨b, off + i * 3 + 2, none⟩ = some (.int .i64 A.f2)) ∧ b < w.heap.size) hA
    refine ⟨(List.range len).map f, ⟨by simp, .inr ⟨b, off, rfl, (hf 0 (by omega)).2.2, fun i hi => ?_, fun i hi => ?_, fun i hi => ?_⟩⟩, ?_, by omega⟩
    · simp at hi
      have := (hf i hi).2.1.1
      simpa using this
    · simp at hi
      have := (hf i hi).2.1.2.1
      simpa using this
    · simp at hi
      have := (hf i hi).2.1.2.2
      simpa using this
    · intro q hq
      simp at hq
      obtain ⟨i, hi, rfl⟩ := hq
      exact (hf i hi).1
set_option maxRecDepth 100000 in
/-- A slice that came in. -/
theorem read_Reachs {r : Reach} {b0 : Nat} {v0 : Value} {d : DataW H} {p : List MemPlace} (hv : Value.okWide Try.prog w r b0 34 v0) (h : DataW.Trod enc Try.prog w base sp held 34 v0 d p) :
    ∃ (l : List ReachT) (a : Option Addr) (len cap : Nat), v0 = .slice a len cap ∧ SlReach w a len l ∧ (∀ q ∈ l, ReachT.Ok q) ∧ len ≤ maxLen := by
  obtain ⟨fuel, hf0⟩ := h
  obtain ⟨a, len, cap, rfl⟩ := okWide_slice Try.underlying34 hv
  obtain ⟨l, h1, h2, h3⟩ := reads_Reach hf0
  exact ⟨l, a, len, cap, rfl, h1, h2, h3⟩
end
end Go.Proofs.Ytakjnbdjjeccoaa
