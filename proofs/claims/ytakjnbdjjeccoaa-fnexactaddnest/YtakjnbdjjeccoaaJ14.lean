/- GItN, GItM, one behind the other. -/
import Derived.Test.YtakjnbdjjeccoaaJ13
import Derived.Shelf.SlIterI.Sorted
/- maps.Keys(m) at keys of type impl.Nest, slices.AppendSeq, slices.Collect of it. -/
namespace Go.Proofs.Ytakjnbdjjeccoaa
open Go.RowKit Go.Maps Go.Sort Go.Shelf

def encN (x : ByteArray × ByteArray) : Value := .agg #[.string x.1, .string x.2]
def celN (x : ByteArray × ByteArray) : List Value := [.string x.1, .string x.2]
def celsN (ss : List (ByteArray × ByteArray)) : List Value := ss.flatMap celN
theorem celsN_snoc (ss : List (ByteArray × ByteArray)) (x : ByteArray × ByteArray) : celsN (ss ++ [x]) = celsN ss ++ celN x := by simp [celsN]
def okKN (x : ByteArray × ByteArray) : Prop := x.1.size ≤ maxLen ∧ x.2.size ≤ maxLen
theorem encN_inj {x y : ByteArray × ByteArray} (h : encN x = encN y) : x = y := by
  obtain ⟨a, b⟩ := x
  obtain ⟨c, d⟩ := y
  simpa [encN] using h
theorem mRowN : (42 : TypeId) < Try.prog.types.size := of_decide_eq_true (by kernel_rfl)
set_option maxRecDepth 100000 in
theorem lawKN : Keyed Try.prog 42 := Keyed.of_law (deep_law_laid mLaid (m := 2) (by omega) mRowN (by kernel_rfl) (by rw [Try.underlying42]))
set_option maxRecDepth 100000 in
theorem keyN_all {v : Value} {kl : Lit} (h : keyOf Try.prog 42 v = some kl) : ∃ x, okKN x ∧ v = encN x := by
  have hc : Try.prog.cellsOf 42 = 2 := by kernel_rfl
  have k0 : Try.prog.cellsOf 9 = 1 := by kernel_rfl
  have k1 : Try.prog.cellsOf 9 = 1 := by kernel_rfl
  obtain ⟨m, hm⟩ := pos_succ mRowN
  unfold keyOf at h
  rw [Try.underlying42] at h
  simp only at h
  split at h
  · rename_i hf
    simp only [Bool.and_eq_true] at hf
    have hf2 := hf.2
    unfold Value.formed at hf2
    rw [Try.underlying42] at hf2
    cases v with
    | agg cs =>
      simp only [hc, beq_iff_eq] at hf2
      obtain ⟨ls, hl, _⟩ := Option.map_eq_some_iff.1 h
      obtain ⟨l⟩ := cs
      match l, hf2 with
      | [a, b], _ =>
        rw [hm] at hl
        unfold Program.keyLits at hl
        rw [Try.underlying42] at hl
        simp [Value.cells, hc, k0] at hl
        obtain ⟨x, hx, hl⟩ := Option.bind_eq_some_iff.1 hl
        obtain ⟨ys, hy, _⟩ := Option.map_eq_some_iff.1 hl
        obtain ⟨y, hy1, _⟩ := Option.bind_eq_some_iff.1 hy
        obtain ⟨y', hy3, _⟩ := Option.bind_eq_some_iff.1 hy1
        obtain ⟨t, rfl, ht⟩ := lits_str hx
        obtain ⟨o, rfl, ho⟩ := lits_str hy3
        exact ⟨(t, o), ⟨ht, ho⟩, rfl⟩
    | _ => simp at hf2
  · cases h

/-- No key twice; a key is on the list just where the map has it and it is no longer to come. -/
def CollN {H : Type} (D0 : DataW H) (left : Lit → Bool) (ss : List (ByteArray × ByteArray)) : Prop := ss.Nodup ∧ ∀ x, x ∈ ss ↔ ∃ kl, keyOf Try.prog 42 (encN x) = some kl ∧ has D0 kl = true ∧ left kl = false
/-- The list has the map's keys, each once. -/
def KeysN {H : Type} (D0 : DataW H) (ss : List (ByteArray × ByteArray)) : Prop := ss.Nodup ∧ ∀ x, x ∈ ss ↔ ∃ kl, keyOf Try.prog 42 (encN x) = some kl ∧ has D0 kl = true
theorem CollN.start {H : Type} (D0 : DataW H) : CollN D0 (has D0) [] := ⟨List.nodup_nil, fun x => by
  constructor
  · intro h; simp at h
  · rintro ⟨kl, _, h1, h2⟩; rw [h1] at h2; cases h2⟩
theorem CollN.step {H : Type} {D0 : DataW H} {left : Lit → Bool} {ss : List (ByteArray × ByteArray)} (h : CollN D0 left ss) {x : ByteArray × ByteArray} {kl : Lit} {y : DataW H} (hk : keyOf Try.prog 42 (encN x) = some kl) (hlk : left kl = true) (hat : ∀ zd, D0.atKey kl zd = y) :
    CollN D0 (fun z => left z && !z.sameKey kl) (ss ++ [x]) := by
  have hhas : has D0 kl = true := has_true_of_atKey hat
  have hnew : x ∉ ss := fun hx => by
    obtain ⟨kl', e, _, h2⟩ := (h.2 x).1 hx
    rw [hk] at e; cases e; rw [hlk] at h2; cases h2
  refine ⟨List.nodup_append.2 ⟨h.1, by simp, fun a ha b hb => by simp at hb; subst hb; exact fun e => hnew (e ▸ ha)⟩, fun y => ?_⟩
  rw [List.mem_append, h.2 y, List.mem_singleton]
  constructor
  · rintro (⟨kl', e, h1, h2⟩ | rfl)
    · exact ⟨kl', e, h1, by simp [h2]⟩
    · exact ⟨kl, hk, hhas, by simp [WideAt.sameKey_self (lawKN.key hk)]⟩
  · rintro ⟨kl', e, h1, h2⟩
    by_cases hy : y = x
    · exact .inr hy
    · refine .inl ⟨kl', e, h1, ?_⟩
      have hne : kl' ≠ kl := fun e2 => hy (encN_inj (lawKN.inj e (e2 ▸ hk)))
      simpa [sameKey_ne hne] using h2

set_option maxRecDepth 100000 in
set_option maxHeartbeats 1000000 in
theorem keys1N {H : Type} (n : Nat) (hn : 1 ≤ n) (l Bm b nn : Nat) (D0 : DataW H) {R : Value → Option (DataW H × List MemPlace)} (J : List (ByteArray × ByteArray) → World → Prop)
    (hY : ∀ pre x W, J pre W → pre.length < Maps.size D0 → YieldAt Fence.wide (n - 1) Try.prog l #[encN x] W fun e W' => e = .returned (.bool true) ∧ J (pre ++ [x]) W' ∧ KeepsWalks W W')
    (W : World) (hJ : AbidesFrom W.heap.size J) (hm : W.cell? ⟨Bm, 0, none⟩ = some (.map (some b))) (hown : W.ownsMap Try.prog 42 R b nn D0) (h0 : J [] W) :
    CallsIn Fence.wide n Try.prog 85 #[.func (.yield l) #[] #[], .pointer (some ⟨Bm, 0, none⟩)] W fun e W' => (∃ v, e = .returned v) ∧ ∃ ss : List (ByteArray × ByteArray), KeysN D0 ss ∧ J ss W' := by
  refine callsIn_of_wp Try.func85 rfl trivial ?_ rfl
  simp only [Try.ntmps85, List.size_toArray, List.length_cons, List.length_nil, Nat.reduceAdd, Nat.reduceSub, Array.replicate_succ, Array.replicate_zero, List.push_toArray, List.append_toArray, List.nil_append, List.cons_append]
  gi_wp2_with (first
    | (gi_at_range; refine wpListIn_range_own _ rfl _ 62 rfl 42 _ lawKN Try.underlying62 _ b nn _ rfl hown ?_; intro w0 hrg0 hg0 hs0)
    | gi_in)
  go_frame
  gi_loopw [3] (fun _ wr => ∃ (left : Lit → Bool) (cnt : Nat) (ss : List (ByteArray × ByteArray)), wr.ranges Try.prog 42 R b W.heap.size nn D0 left cnt ∧ ss.length + cnt ≤ Maps.size D0 ∧ CollN D0 left ss ∧ J ss wr)
    (fun _ wr => wr.rangeLeft b W.heap.size)
  case atStart =>
    exact ⟨_, _, [], hrg0, by simp, CollN.start D0, hJ [] W w0 none h0 hg0 (fun r e => by cases e)⟩
  case round =>
    obtain ⟨left, cnt, ss, hrg, hcs, hC, hJs⟩ := hrel
    gi_wp2_with (first
      | (gi_at_next; refine wpListIn_next_ranges _ rfl _ rfl 42 lawKN R encN id (fun key kl hk => by obtain ⟨x, _, hx⟩ := keyN_all hk; exact ⟨x, hx⟩) (fun v _ _ => ⟨v, rfl⟩) b W.heap.size nn _ _ _ rfl hrg ?_ ?_)
      | gi_in)
    · intro hc0 hl0
      gi_wp2
      go_end0
      exact ⟨⟨_, rfl⟩, ss, ⟨hC.1, fun x => (hC.2 x).trans ⟨fun ⟨kl, a1, a2, _⟩ => ⟨kl, a1, a2⟩, fun ⟨kl, a1, a2⟩ => ⟨kl, a1, a2, hl0 kl⟩⟩⟩, hJs⟩
    · intro xa xb c kl yd yp w2 cnt2 hkey hlk hv hat hrg2 hlt hg2 hs2 hen
      obtain ⟨x, hx⟩ : ∃ x : ByteArray × ByteArray, x = (xa, xb) := ⟨_, rfl⟩
      obtain ⟨rfl, rfl⟩ : xa = x.1 ∧ xb = x.2 := by rw [hx]; exact ⟨rfl, rfl⟩
      replace hkey : keyOf Try.prog 42 (encN x) = some kl := hkey
      replace hen : (Instr.entry (.pointer (some ⟨W.heap.size, 0, none⟩))).run Try.prog w2 = .ok (.tuple #[.agg #[.string x.1, .string x.2], c]) w2 := hen
      clear hx
      have hJ2 : J ss w2 := hJ ss wr w2 (some W.heap.size) hJs hg2 (fun r e => by cases e; exact ⟨Nat.le_refl _, hrg.iter_walk⟩)
      have hz2 : W.heap.size < w2.heap.size := hrg2.lt
      obtain ⟨W3, hW3⟩ : ∃ W3, W3 = w2.alloc (.cells #[.string x.1, .string x.2] 42) := ⟨_, rfl⟩
      have hJ3 : J ss W3 := hJ ss w2 W3 none hJ2 (by rw [hW3]; exact World.grownBy_alloc _ _ none) (fun r e => by cases e)
      have hrg3 := hrg2.alloc (.cells #[.string x.1, .string x.2] 42)
      rw [← hW3] at hrg3
      obtain ⟨fn, tmps, assign, body, hy, hR⟩ := hY ss x W3 hJ3 (by omega)
      clear hs2
      subst hW3
      simp only [encN] at hen hy hR ⊢
      gi_wp2
      refine hR.mono ?_
      rintro e W4 ⟨rfl, hJ4, hk4⟩
      gi_wp2
      have hrg4 := hrg3.of_walks hk4
      go_roundw
      case rel => exact ⟨_, cnt2, ss ++ [x], hrg4, by simp; omega, hC.step hkey hlk hat, hJ4⟩
      case measure => rw [hrg4.left_eq, hrg.left_eq]; exact hlt

set_option maxHeartbeats 1000000 in
theorem keysOfN (mb : Option Nat) (W : World) : Calls Try.prog 54 #[.map mb] W fun e w' => e = .returned (.func (.func 85) #[] #[.pointer (some ⟨W.heap.size, 0, none⟩)]) ∧ w' = W.alloc (.cells #[.map mb] 62) := by
  go_enter Try.func54, Try.ntmps54
  go_wp2
  go_ret
  exact ⟨rfl, rfl⟩

theorem givesN {H : Type} (n : Nat) (hn : 1 ≤ n) (Bm b nn : Nat) (D0 : DataW H) {R : Value → Option (DataW H × List MemPlace)} (w : World) (hBm : Bm < w.heap.size)
    (hm : w.cell? ⟨Bm, 0, none⟩ = some (.map (some b))) (hown : w.ownsMap Try.prog 42 R b nn D0) :
    SeqGives Fence.wide n Try.prog 85 #[.pointer (some ⟨Bm, 0, none⟩)] encN (KeysN D0) (Maps.size D0) w := fun l J W hW hJ hY h0 => by
  have hown' : W.ownsMap Try.prog 42 R b nn D0 := by
    have hbl := hown.lt
    obtain ⟨es, clock, hb, Ft, hs, hD⟩ := hown
    exact ⟨es, clock, (hW.block b hbl).trans hb, Ft, hs, hD⟩
  exact keys1N n hn l Bm b nn D0 J hY W hJ ((hW.cell (p := ⟨Bm, 0, none⟩) hBm).trans hm) hown' h0

/-- What the loop of slices.AppendSeq does at each round, out of the function's own text. -/
noncomputable def apAssignN : Code := match Try.f102.body with | some (.seq _ (.seq (.seq _ (.block _ (.rangeFunc _ _ a _))) _)) => a | _ => .skip
noncomputable def apBodyN : Code := match Try.f102.body with | some (.seq _ (.seq (.seq _ (.block _ (.rangeFunc _ _ _ b))) _)) => b | _ => .skip
noncomputable def apRecN (fn : FuncId) (sv : Value) (Bs D : Nat) (st : LoopState) (pend : Option Code) : Loop :=
  { state := st, pending := pend, fn, tmps := #[.slice none 0 0, sv, .pointer (some ⟨Bs, 0, none⟩), undef, .slice none 0 0, undef, sv, undef, undef, undef, undef, undef, undef], params := #[7], assign := apAssignN, body := apBodyN, defers := D }
/-- Between two rounds: the box holds a slice that owns what has come so far. -/
structure ApAtN (w0 : World) (fn : FuncId) (sv : Value) (Bs l D : Nat) (ss : List (ByteArray × ByteArray)) (W : World) : Prop where
  box : ∃ v, W.heap[Bs]? = some (.cells #[v] 25 (0, 0)) ∧ W.ownsRow w0.heap.size 42 2 v ss.length (celsN ss) ∧ (v = .slice none 0 0 ↔ ss = [])
  L : W.heap[l]? = some (.loop (apRecN fn sv Bs D .ready none))
  K : W.heap[D]? = some (.deferred (some []))
  below : Below w0.heap.size w0 W
theorem apAbidesN (w0 : World) (fn : FuncId) (sv : Value) (Bs l D B : Nat) (hB : w0.heap.size ≤ B) : AbidesFrom B (ApAtN w0 fn sv Bs l D) := fun s W W' row h hg hrow => by
  have hrow' : ∀ r, row = some r → ∃ o : Obj, W.heap[r]? = some o ∧ o.isWalk = true := fun r e => (hrow r e).2
  obtain ⟨v, hv, hr, hn⟩ := h.box
  exact ⟨⟨v, (grownBy_keeps hg hrow' hv rfl).trans hv, ownsRow_abides_a hr hg hrow', hn⟩, (grownBy_keeps hg hrow' h.L rfl).trans h.L, (grownBy_keeps hg hrow' h.K rfl).trans h.K,
    h.below.grown hg h.below.size (fun k e => Nat.le_trans hB (hrow k e).1)⟩
theorem infoKN : (Try.prog.info? 42).map (fun i => (i.zero, i.size, i.bytes)) = some (some (.agg #[.string ByteArray.empty, .string ByteArray.empty]), 2, 32) := by kernel_rfl
theorem cellTwoN (W : World) (n : Nat) (hn : n = W.heap.size) (a b : Value) (t : TypeId) : ∀ j u, [a, b][j]? = some u → (W.alloc (.cells #[a, b] t)).cell? ((⟨n, 0, none⟩ : Addr).add j) = some u := by
  subst hn; exact cell_two_new W a b t

set_option maxRecDepth 100000 in
set_option maxHeartbeats 2000000 in
theorem apYieldN (m : Nat) (w0 : World) (fn : FuncId) (sv : Value) (Bs l D : Nat) (hBl : Bs ≠ l) (hDl : D ≠ l) (hDB : D ≠ Bs) (h0B : w0.heap.size ≤ Bs) (h0l : w0.heap.size ≤ l)
    (N : Nat) (hN : N ≤ maxLen) (hNb : N * 32 ≤ 140737488355328) (ss : List (ByteArray × ByteArray)) (x : ByteArray × ByteArray) (W : World) (h : ApAtN w0 fn sv Bs l D ss W) (hlen : ss.length < N) :
    YieldAt Fence.wide m Try.prog l #[encN x] W fun e W' => e = .returned (.bool true) ∧ ApAtN w0 fn sv Bs l D (ss ++ [x]) W' ∧ KeepsWalks W W' := by
  have hne : (25 : TypeId) ≠ 42 := by decide
  obtain ⟨i0, hi, hz0, hz1, hz2⟩ := info_parts infoKN
  obtain ⟨v, hv, hrow, _⟩ := h.box
  refine ⟨fn, #[.slice none 0 0, sv, .pointer (some ⟨Bs, 0, none⟩), undef, .slice none 0 0, undef, sv, encN x, undef, undef, undef, undef, undef], apAssignN, apBodyN, by simpa [apRecN] using run_yield (P := Try.prog) (args := #[encN x]) h.L rfl, roundIn_of_wpIn trivial ?_⟩
  have hl : l < W.heap.size := (Array.getElem?_eq_some_iff.1 h.L).1
  have hBlt : Bs < W.heap.size := (Array.getElem?_eq_some_iff.1 hv).1
  have hDlt : D < W.heap.size := (Array.getElem?_eq_some_iff.1 h.K).1
  obtain ⟨W1, hW1⟩ : ∃ W1, W.alloc (.cells #[.string x.1, .string x.2] 42) = W1 := ⟨_, rfl⟩
  have hs1 : W1.heap.size = W.heap.size + 1 := by rw [← hW1]; simp
  have old1 : ∀ k, k < W.heap.size → W1.heap[k]? = W.heap[k]? := fun k hk => by rw [← hW1]; exact Below.heap_alloc _ _ k hk
  have hL1 : W1.heap[l]? = some (.loop (apRecN fn sv Bs D .ready none)) := (old1 l hl).trans h.L
  have hx01 : W1.cell? ⟨W.heap.size, 0, none⟩ = some (.string x.1) := by rw [← hW1]; exact cellTwoN W _ rfl _ _ _ 0 _ rfl
  have hx11 : W1.cell? ⟨W.heap.size, 1, none⟩ = some (.string x.2) := by rw [← hW1]; exact cellTwoN W _ rfl _ _ _ 1 _ rfl
  have hrow1 : W1.ownsRow w0.heap.size 42 2 v ss.length (celsN ss) := by rw [← hW1]; exact hrow.alloc _
  have hb1 : Below w0.heap.size w0 W1 := by rw [← hW1]; exact h.below.alloc h.below.size _
  have hk1 : KeepsWalks W W1 := by rw [← hW1]; exact KeepsWalks.alloc _ _
  have hbr := run_beginRound (P := Try.prog) hL1 rfl
  obtain ⟨W2, hW2⟩ : ∃ W2, W1.putObj l (.loop { apRecN fn sv Bs D .ready none with state := .busy }) = W2 := ⟨_, rfl⟩
  rw [hW2] at hbr
  have hg2 : W1.grownBy W2 (some l) := by rw [← hW2]; exact grownBy_putObj_a _ _ _
  have hk2 : KeepsWalks W W2 := hk1.trans (by rw [← hW2]; exact KeepsWalks.putObj _ hL1 rfl)
  have hv2 : W2.heap[Bs]? = some (.cells #[v] 25 (0, 0)) := by rw [← hW2]; exact ((World.putObj_heap_other hBl).trans (old1 Bs hBlt)).trans hv
  have hK2 : W2.heap[D]? = some (.deferred (some [])) := by rw [← hW2]; exact ((World.putObj_heap_other hDl).trans (old1 D hDlt)).trans h.K
  have hL2 : W2.heap[l]? = some (.loop { apRecN fn sv Bs D .ready none with state := .busy }) := by rw [← hW2]; exact World.putObj_heap_same (by omega)
  have hrow2 : W2.ownsRow w0.heap.size 42 2 v ss.length (celsN ss) := hrow1.kept hg2 (ownsRow_ne_a hrow1 hL1 (fun cur e => by first | cases e | exact hne (Obj.cells.inj e).2.1))
  have hb2 : Below w0.heap.size w0 W2 := hb1.grown hg2 hb1.size (fun k e => by cases e; exact h0l)
  have hx0 : W2.cell? ⟨W.heap.size, 0, none⟩ = some (.string x.1) := by rw [← hW2]; exact (World.cell?_of_block (World.putObj_heap_other (by show W.heap.size ≠ l; omega))).trans hx01
  have hx1 : W2.cell? ⟨W.heap.size, 1, none⟩ = some (.string x.2) := by rw [← hW2]; exact (World.cell?_of_block (World.putObj_heap_other (by show W.heap.size ≠ l; omega))).trans hx11
  have hs2 : W2.heap.size = W.heap.size + 1 := by rw [← hW2, ← hs1]; simp
  obtain ⟨hc2, hf2⟩ := cell_of_box_a hv2
  have ne_of : ∀ {j : Nat} {o : Obj}, W2.heap[j]? = some o → (∀ cur, o ≠ .cells cur 42 (0, 0)) → some j ≠ v.ownBlock := fun hj hno => by
    rcases ownsRow_ne_a hrow2 hj hno with e | e
    · rw [e]; simp
    · exact fun e' => e e'.symm
  have HS2 := hide hs2
  clear hW2 hx01 hx11 hrow1 hb1 hk1 hg2 hs1 hs2
  dsimp only [apAssignN, apBodyN, Try.f102, encN]
  clear hL1 old1
  gi_wp2_with (first
    | (gi_at_builtin; refine wpListIn_append_own _ rfl _ _ 25 rfl w0.heap.size 42 i0 _ 2 32 Try.underlying25 hi hz0 hz1 hz2 rfl (by decide) _ _ _ rfl (hrow2.alloc _) ⟨W2.heap.size, 0, none⟩ 1 1 (celN x) rfl rfl (cellTwoN _ _ rfl _ _ _) (fun u hu => by simp [celN] at hu; rcases hu with rfl | rfl <;> rfl) (by omega) (by omega) (by have := hb2.size; simp; omega) ?_; intro v' w3 hown' hg3 hnil3
       have hs2 := unhide HS2
       have hv3 : w3.heap[Bs]? = some (.cells #[v] 25 (0, 0)) := (hg3.block Bs (by simp; omega) (ne_of hv2 (fun cur e => by first | cases e | exact hne (Obj.cells.inj e).2.1))).trans ((Below.heap_alloc _ _ Bs (by omega)).trans hv2)
       obtain ⟨hc3, hf3⟩ := cell_of_box_a hv3
       obtain ⟨g', cap', cur', rfl, hbase', hgb', hr1, hr2, hr3, hr4⟩ : ∃ g' cap' cur', v' = .slice (some ⟨g', 0, none⟩) (ss.length + 1) cap' ∧ w0.heap.size ≤ g' ∧ w3.heap[g']? = some (.cells cur' 42 (0, 0)) ∧ ss.length + 1 ≤ cap' ∧ cap' ≤ maxLen ∧ cur'.size = cap' * 2 ∧ cur'.toList.take ((ss.length + 1) * 2) = celsN ss ++ celN x := by
         rcases hown'.2 with ⟨_, h0⟩ | h'
         · exact absurd h0 (by omega)
         · exact h'
       clear hs2
       go_frame)
    | gi_round_op_a)
  have hs2 := unhide HS2
  have hg3' : (W2.alloc (.cells (celN x).toArray 42)).grownBy w3 v.ownBlock := hg3
  have hL3 : w3.heap[l]? = some (.loop { apRecN fn sv Bs D .ready none with state := .busy }) := (hg3'.block l (by simp; omega) (ne_of hL2 (fun cur e => by first | cases e | exact hne (Obj.cells.inj e).2.1))).trans ((Below.heap_alloc _ _ l (by omega)).trans hL2)
  have hK3 : w3.heap[D]? = some (.deferred (some [])) := (hg3'.block D (by simp; omega) (ne_of hK2 (fun cur e => by first | cases e | exact hne (Obj.cells.inj e).2.1))).trans ((Below.heap_alloc _ _ D (by omega)).trans hK2)
  obtain ⟨w4, hw4⟩ : ∃ w4, w3.setCell ⟨Bs, 0, none⟩ (.slice (some ⟨g', 0, none⟩) (ss.length + 1) cap') = w4 := ⟨_, rfl⟩
  rw [hw4]
  have hg4 : w3.grownBy w4 (some Bs) := by rw [← hw4]; exact grownBy_setCell0_a _ _ _
  have hv4 : w4.heap[Bs]? = some (.cells #[.slice (some ⟨g', 0, none⟩) (ss.length + 1) cap'] 25 (0, 0)) := by rw [← hw4]; exact heap_setCell_box_a _ hv3
  have hL4 : w4.heap[l]? = some (.loop { apRecN fn sv Bs D .ready none with state := .busy }) := (hg4.block l (Array.getElem?_eq_some_iff.1 hL3).1 (fun e => hBl (by cases e; rfl))).trans hL3
  have hK4 : w4.heap[D]? = some (.deferred (some [])) := (hg4.block D (Array.getElem?_eq_some_iff.1 hK3).1 (fun e => hDB (by cases e; rfl))).trans hK3
  have hrow4 := hown'.kept hg4 (ownsRow_ne_a hown' hv3 (fun cur e => by first | cases e | exact hne (Obj.cells.inj e).2.1))
  have hl4 : l < w4.heap.size := (Array.getElem?_eq_some_iff.1 hL4).1
  have hb3 : Below w0.heap.size w0 w3 := (hb2.alloc hb2.size _).grown hg3' (by have := hb2.size; simp; omega) (fun k e => (hrow2.lt k e).1)
  have hb4 : Below w0.heap.size w0 w4 := hb3.grown hg4 hb3.size (fun k e => by cases e; exact h0B)
  have hk4 : KeepsWalks W w4 := ((hk2.trans (KeepsWalks.alloc _ _)).trans (KeepsWalks.of_grownBy hg3' (ownsRow_not_walk_a (hrow2.alloc _)))).trans (by rw [← hw4]; exact KeepsWalks.setCell _ _ _)
  clear hw4
  refine ⟨_, _, run_endRound none hL4, rfl, ⟨⟨_, (World.putObj_heap_other hBl).trans hv4, ?_, by simp⟩, World.putObj_heap_same hl4, (World.putObj_heap_other hDl).trans hK4, hb4.grown (grownBy_putObj_a _ _ _) hb4.size (fun k e => by cases e; exact h0l)⟩, hk4.trans (KeepsWalks.putObj _ hL4 rfl)⟩
  rw [celsN_snoc, List.length_append]
  exact hrow4.kept (grownBy_putObj_a w4 l _) (ownsRow_ne_a hrow4 hL4 (fun cur e => by first | cases e | exact hne (Obj.cells.inj e).2.1))

set_option maxRecDepth 100000 in
set_option maxHeartbeats 2000000 in
/-- slices.AppendSeq(nil, seq) against whatever iterator. -/
theorem appendSeqN (n : Nat) (hn : 2 ≤ n) (g : Nat) (lb : Array Value) (eg : ∀ args w, (callFunc g args).run Try.prog w = .ok (.enter g args) w)
    (S : List (ByteArray × ByteArray) → Prop) (N : Nat) (hN : N ≤ maxLen) (hNb : N * 32 ≤ 140737488355328) (w : World) (hseq : SeqGives Fence.wide (n - 1) Try.prog g lb encN S N w) :
    CallsIn Fence.wide n Try.prog 102 #[.slice none 0 0, .func (.func g) #[] lb] w fun e w' => ∃ (v : Value) (ss : List (ByteArray × ByteArray)), e = .returned v ∧ S ss ∧ w'.ownsRow w.heap.size 42 2 v ss.length (celsN ss) ∧ (v = .slice none 0 0 ↔ ss = []) ∧ Below w.heap.size w w' := by
  have h1 : 1 ≤ n := by omega
  have hne : (25 : TypeId) ≠ 42 := by decide
  refine callsIn_of_wp_marks Try.func102 rfl trivial ?_ rfl
  simp only [Try.ntmps102, List.size_toArray, List.length_cons, List.length_nil, Nat.reduceAdd, Nat.reduceSub, Array.replicate_succ, Array.replicate_zero, List.push_toArray, List.append_toArray, List.nil_append, List.cons_append]
  gi_wp2
  refine wpIn_rangeFunc ?_
  intro fn hfn
  obtain ⟨W0, hW0⟩ : ∃ W0, w.alloc (.cells #[.slice none 0 0] 25) = W0 := ⟨_, rfl⟩
  have hs0 : W0.heap.size = w.heap.size + 1 := by rw [← hW0]; simp
  have hv0 : W0.heap[w.heap.size]? = some (.cells #[.slice none 0 0] 25 (0, 0)) := by rw [← hW0]; exact World.alloc_heap_new w _
  have hb0 : Below w.heap.size w W0 := by rw [← hW0]; exact (Below.refl _ w).alloc (Nat.le_refl _) _
  rw [hW0]
  obtain ⟨W1, hW1⟩ : ∃ W1, (W0.alloc (.deferred (some []))).alloc (.loop (apRecN fn (.func (.func g) #[] lb) w.heap.size W0.heap.size .ready none)) = W1 := ⟨_, rfl⟩
  have hold : ∀ k, k < W0.heap.size → W1.heap[k]? = W0.heap[k]? := fun k hk => by
    rw [← hW1]; exact (Below.heap_alloc _ _ k (by simp; omega)).trans (Below.heap_alloc _ _ k hk)
  have hb1 : Below w.heap.size w W1 := by rw [← hW1]; exact (hb0.alloc hb0.size _).alloc (by have := hb0.size; simp; omega) _
  have hs1 : W1.heap.size = W0.heap.size + 2 := by rw [← hW1]; simp
  have hM : ApAtN w fn (.func (.func g) #[] lb) w.heap.size (W0.heap.size + 1) W0.heap.size [] W1 :=
    ⟨⟨_, (hold w.heap.size (by omega)).trans hv0, ⟨rfl, .inl ⟨rfl, rfl⟩⟩, by simp⟩,
     by rw [← hW1]; have := World.alloc_heap_new (W0.alloc (.deferred (some []))) (.loop (apRecN fn (.func (.func g) #[] lb) w.heap.size W0.heap.size .ready none)); rwa [World.size_alloc] at this,
     by rw [← hW1]; exact (Below.heap_alloc _ _ _ (by simp)).trans (World.alloc_heap_new W0 _), hb1⟩
  refine ⟨W0.heap.size + 1, [{ target := .collected W0.heap.size, args := #[] }], W1, { target := .fn (.func g) lb, args := #[.func (.yield (W0.heap.size + 1)) #[] #[]] }, W1, g,
    #[.func (.yield (W0.heap.size + 1)) #[] #[]] ++ lb, W1, ?_, ?_, ?_, ?_, fun _ => h1, ?_⟩
  · rw [← hW1]; exact run_enterLoop_outer _ _ _ _ _
  · simp [resolve, go_sem]
  · intro f' hf'; trivial
  · simp [invoke, go_sem, eg]
  · refine (hseq (W0.heap.size + 1) (ApAtN w fn (.func (.func g) #[] lb) w.heap.size (W0.heap.size + 1) W0.heap.size) W1 hb1 (apAbidesN _ _ _ _ _ _ _ hb1.size)
      (fun pre x W hJ hl => apYieldN (n - 1 - 1) w fn _ w.heap.size (W0.heap.size + 1) W0.heap.size (by omega) (by omega) (by omega) (Nat.le_refl _) (by omega) N hN hNb pre x W hJ hl) hM).mono ?_
    rintro e W2 ⟨⟨v0, rfl⟩, ss, hS, h2⟩
    obtain ⟨v, hv, hrow, hnil⟩ := h2.box
    have hend := run_endLoop (P := Try.prog) h2.L (by simp [apRecN])
    obtain ⟨W3, hW3⟩ : ∃ W3, W2.putObj (W0.heap.size + 1) (.loop { apRecN fn (.func (.func g) #[] lb) w.heap.size W0.heap.size .ready none with state := .exhausted }) = W3 := ⟨_, rfl⟩
    rw [hW3] at hend
    have hg3 : W2.grownBy W3 (some (W0.heap.size + 1)) := by rw [← hW3]; exact grownBy_putObj_a _ _ _
    have hv3 : W3.heap[w.heap.size]? = some (.cells #[v] 25 (0, 0)) := by rw [← hW3]; exact (World.putObj_heap_other (by omega)).trans hv
    have hK3 : W3.heap[W0.heap.size]? = some (.deferred (some [])) := by rw [← hW3]; exact (World.putObj_heap_other (by omega)).trans h2.K
    have hrow3 := hrow.kept hg3 (ownsRow_ne_a hrow h2.L (fun cur e => by first | cases e | exact hne (Obj.cells.inj e).2.1))
    have hb3 : Below w.heap.size w W3 := h2.below.grown hg3 h2.below.size (fun k e => by cases e; omega)
    obtain ⟨hc3, hf3⟩ := cell_of_box_a hv3
    clear hW3
    refine ⟨none, W3, hend, ?_⟩
    gi_wp2
    rw [← hs0]
    refine ⟨by simp, .inl ⟨_, _, rfl, run_takeDeferred hK3, ?_⟩⟩
    exact ⟨_, results_tmp rfl _ _ _, v, ss, rfl, hS, hrow3.kept (grownBy_putObj_a _ _ _) (ownsRow_ne_a hrow3 hK3 (fun cur e => by first | cases e | exact hne (Obj.cells.inj e).2.1)), hnil, hb3.grown (grownBy_putObj_a _ _ _) hb3.size (fun k e => by cases e; omega)⟩

set_option maxHeartbeats 1000000 in
/-- slices.Collect(seq) against whatever iterator. -/
theorem collectN (g : Nat) (lb : Array Value) (eg : ∀ args w, (callFunc g args).run Try.prog w = .ok (.enter g args) w)
    (S : List (ByteArray × ByteArray) → Prop) (N : Nat) (hN : N ≤ maxLen) (hNb : N * 32 ≤ 140737488355328) (w : World) (hseq : SeqGives Fence.wide 4 Try.prog g lb encN S N w) :
    Calls Try.prog 83 #[.func (.func g) #[] lb] w fun e w' => ∃ (v : Value) (ss : List (ByteArray × ByteArray)), e = .returned v ∧ S ss ∧ w'.ownsRow w.heap.size 42 2 v ss.length (celsN ss) ∧ (v = .slice none 0 0 ↔ ss = []) ∧ Below w.heap.size w w' := by
  have qa := hide ((callsIn_wide (n := 5)).1 (appendSeqN 5 (by omega) g lb eg S N hN hNb w hseq))
  go_enter Try.func83, Try.ntmps83
  go_wp2_with fail
  refine (unhide qa).mono ?_
  rintro e w' ⟨v, ss, rfl, hS, hrow, hnil, hb⟩
  go_wp2_with fail
  go_ret
  exact ⟨v, ss, rfl, hS, hrow, hnil, hb⟩
end Go.Proofs.Ytakjnbdjjeccoaa
/- maps.Keys(m) at keys of type impl.Nest, slices.AppendSeq, slices.Collect of it. -/
namespace Go.Proofs.Ytakjnbdjjeccoaa
open Go.RowKit Go.Maps Go.Sort Go.Shelf

def encM (x : ByteArray × ByteArray) : Value := .agg #[.string x.1, .string x.2]
def celM (x : ByteArray × ByteArray) : List Value := [.string x.1, .string x.2]
def celsM (ss : List (ByteArray × ByteArray)) : List Value := ss.flatMap celM
theorem celsM_snoc (ss : List (ByteArray × ByteArray)) (x : ByteArray × ByteArray) : celsM (ss ++ [x]) = celsM ss ++ celM x := by simp [celsM]
def okKM (x : ByteArray × ByteArray) : Prop := x.1.size ≤ maxLen ∧ x.2.size ≤ maxLen
theorem encM_inj {x y : ByteArray × ByteArray} (h : encM x = encM y) : x = y := by
  obtain ⟨a, b⟩ := x
  obtain ⟨c, d⟩ := y
  simpa [encM] using h
theorem mRowM : (42 : TypeId) < Try.prog.types.size := of_decide_eq_true (by kernel_rfl)
set_option maxRecDepth 100000 in
theorem lawKM : Keyed Try.prog 42 := Keyed.of_law (deep_law_laid mLaid (m := 2) (by omega) mRowM (by kernel_rfl) (by rw [Try.underlying42]))
set_option maxRecDepth 100000 in
theorem keyM_all {v : Value} {kl : Lit} (h : keyOf Try.prog 42 v = some kl) : ∃ x, okKM x ∧ v = encM x := by
  have hc : Try.prog.cellsOf 42 = 2 := by kernel_rfl
  have k0 : Try.prog.cellsOf 9 = 1 := by kernel_rfl
  have k1 : Try.prog.cellsOf 9 = 1 := by kernel_rfl
  obtain ⟨m, hm⟩ := pos_succ mRowM
  unfold keyOf at h
  rw [Try.underlying42] at h
  simp only at h
  split at h
  · rename_i hf
    simp only [Bool.and_eq_true] at hf
    have hf2 := hf.2
    unfold Value.formed at hf2
    rw [Try.underlying42] at hf2
    cases v with
    | agg cs =>
      simp only [hc, beq_iff_eq] at hf2
      obtain ⟨ls, hl, _⟩ := Option.map_eq_some_iff.1 h
      obtain ⟨l⟩ := cs
      match l, hf2 with
      | [a, b], _ =>
        rw [hm] at hl
        unfold Program.keyLits at hl
        rw [Try.underlying42] at hl
        simp [Value.cells, hc, k0] at hl
        obtain ⟨x, hx, hl⟩ := Option.bind_eq_some_iff.1 hl
        obtain ⟨ys, hy, _⟩ := Option.map_eq_some_iff.1 hl
        obtain ⟨y, hy1, _⟩ := Option.bind_eq_some_iff.1 hy
        obtain ⟨y', hy3, _⟩ := Option.bind_eq_some_iff.1 hy1
        obtain ⟨t, rfl, ht⟩ := lits_str hx
        obtain ⟨o, rfl, ho⟩ := lits_str hy3
        exact ⟨(t, o), ⟨ht, ho⟩, rfl⟩
    | _ => simp at hf2
  · cases h

/-- No key twice; a key is on the list just where the map has it and it is no longer to come. -/
def CollM {H : Type} (D0 : DataW H) (left : Lit → Bool) (ss : List (ByteArray × ByteArray)) : Prop := ss.Nodup ∧ ∀ x, x ∈ ss ↔ ∃ kl, keyOf Try.prog 42 (encM x) = some kl ∧ has D0 kl = true ∧ left kl = false
/-- The list has the map's keys, each once. -/
def KeysM {H : Type} (D0 : DataW H) (ss : List (ByteArray × ByteArray)) : Prop := ss.Nodup ∧ ∀ x, x ∈ ss ↔ ∃ kl, keyOf Try.prog 42 (encM x) = some kl ∧ has D0 kl = true
theorem CollM.start {H : Type} (D0 : DataW H) : CollM D0 (has D0) [] := ⟨List.nodup_nil, fun x => by
  constructor
  · intro h; simp at h
  · rintro ⟨kl, _, h1, h2⟩; rw [h1] at h2; cases h2⟩
theorem CollM.step {H : Type} {D0 : DataW H} {left : Lit → Bool} {ss : List (ByteArray × ByteArray)} (h : CollM D0 left ss) {x : ByteArray × ByteArray} {kl : Lit} {y : DataW H} (hk : keyOf Try.prog 42 (encM x) = some kl) (hlk : left kl = true) (hat : ∀ zd, D0.atKey kl zd = y) :
    CollM D0 (fun z => left z && !z.sameKey kl) (ss ++ [x]) := by
  have hhas : has D0 kl = true := has_true_of_atKey hat
  have hnew : x ∉ ss := fun hx => by
    obtain ⟨kl', e, _, h2⟩ := (h.2 x).1 hx
    rw [hk] at e; cases e; rw [hlk] at h2; cases h2
  refine ⟨List.nodup_append.2 ⟨h.1, by simp, fun a ha b hb => by simp at hb; subst hb; exact fun e => hnew (e ▸ ha)⟩, fun y => ?_⟩
  rw [List.mem_append, h.2 y, List.mem_singleton]
  constructor
  · rintro (⟨kl', e, h1, h2⟩ | rfl)
    · exact ⟨kl', e, h1, by simp [h2]⟩
    · exact ⟨kl, hk, hhas, by simp [WideAt.sameKey_self (lawKM.key hk)]⟩
  · rintro ⟨kl', e, h1, h2⟩
    by_cases hy : y = x
    · exact .inr hy
    · refine .inl ⟨kl', e, h1, ?_⟩
      have hne : kl' ≠ kl := fun e2 => hy (encM_inj (lawKM.inj e (e2 ▸ hk)))
      simpa [sameKey_ne hne] using h2

set_option maxRecDepth 100000 in
set_option maxHeartbeats 1000000 in
theorem keys1M {H : Type} (n : Nat) (hn : 1 ≤ n) (l Bm b nn : Nat) (D0 : DataW H) {R : Value → Option (DataW H × List MemPlace)} (J : List (ByteArray × ByteArray) → World → Prop)
    (hY : ∀ pre x W, J pre W → pre.length < Maps.size D0 → YieldAt Fence.wide (n - 1) Try.prog l #[encM x] W fun e W' => e = .returned (.bool true) ∧ J (pre ++ [x]) W' ∧ KeepsWalks W W')
    (W : World) (hJ : AbidesFrom W.heap.size J) (hm : W.cell? ⟨Bm, 0, none⟩ = some (.map (some b))) (hown : W.ownsMap Try.prog 42 R b nn D0) (h0 : J [] W) :
    CallsIn Fence.wide n Try.prog 105 #[.func (.yield l) #[] #[], .pointer (some ⟨Bm, 0, none⟩)] W fun e W' => (∃ v, e = .returned v) ∧ ∃ ss : List (ByteArray × ByteArray), KeysM D0 ss ∧ J ss W' := by
  refine callsIn_of_wp Try.func105 rfl trivial ?_ rfl
  simp only [Try.ntmps105, List.size_toArray, List.length_cons, List.length_nil, Nat.reduceAdd, Nat.reduceSub, Array.replicate_succ, Array.replicate_zero, List.push_toArray, List.append_toArray, List.nil_append, List.cons_append]
  gi_wp2_with (first
    | (gi_at_range; refine wpListIn_range_own _ rfl _ 78 rfl 42 _ lawKM Try.underlying78 _ b nn _ rfl hown ?_; intro w0 hrg0 hg0 hs0)
    | gi_in)
  go_frame
  gi_loopw [3] (fun _ wr => ∃ (left : Lit → Bool) (cnt : Nat) (ss : List (ByteArray × ByteArray)), wr.ranges Try.prog 42 R b W.heap.size nn D0 left cnt ∧ ss.length + cnt ≤ Maps.size D0 ∧ CollM D0 left ss ∧ J ss wr)
    (fun _ wr => wr.rangeLeft b W.heap.size)
  case atStart =>
    exact ⟨_, _, [], hrg0, by simp, CollM.start D0, hJ [] W w0 none h0 hg0 (fun r e => by cases e)⟩
  case round =>
    obtain ⟨left, cnt, ss, hrg, hcs, hC, hJs⟩ := hrel
    gi_wp2_with (first
      | (gi_at_next; refine wpListIn_next_ranges _ rfl _ rfl 42 lawKM R encM id (fun key kl hk => by obtain ⟨x, _, hx⟩ := keyM_all hk; exact ⟨x, hx⟩) (fun v _ _ => ⟨v, rfl⟩) b W.heap.size nn _ _ _ rfl hrg ?_ ?_)
      | gi_in)
    · intro hc0 hl0
      gi_wp2
      go_end0
      exact ⟨⟨_, rfl⟩, ss, ⟨hC.1, fun x => (hC.2 x).trans ⟨fun ⟨kl, a1, a2, _⟩ => ⟨kl, a1, a2⟩, fun ⟨kl, a1, a2⟩ => ⟨kl, a1, a2, hl0 kl⟩⟩⟩, hJs⟩
    · intro xa xb c kl yd yp w2 cnt2 hkey hlk hv hat hrg2 hlt hg2 hs2 hen
      obtain ⟨x, hx⟩ : ∃ x : ByteArray × ByteArray, x = (xa, xb) := ⟨_, rfl⟩
      obtain ⟨rfl, rfl⟩ : xa = x.1 ∧ xb = x.2 := by rw [hx]; exact ⟨rfl, rfl⟩
      replace hkey : keyOf Try.prog 42 (encM x) = some kl := hkey
      replace hen : (Instr.entry (.pointer (some ⟨W.heap.size, 0, none⟩))).run Try.prog w2 = .ok (.tuple #[.agg #[.string x.1, .string x.2], c]) w2 := hen
      clear hx
      have hJ2 : J ss w2 := hJ ss wr w2 (some W.heap.size) hJs hg2 (fun r e => by cases e; exact ⟨Nat.le_refl _, hrg.iter_walk⟩)
      have hz2 : W.heap.size < w2.heap.size := hrg2.lt
      obtain ⟨W3, hW3⟩ : ∃ W3, W3 = w2.alloc (.cells #[.string x.1, .string x.2] 42) := ⟨_, rfl⟩
      have hJ3 : J ss W3 := hJ ss w2 W3 none hJ2 (by rw [hW3]; exact World.grownBy_alloc _ _ none) (fun r e => by cases e)
      have hrg3 := hrg2.alloc (.cells #[.string x.1, .string x.2] 42)
      rw [← hW3] at hrg3
      obtain ⟨fn, tmps, assign, body, hy, hR⟩ := hY ss x W3 hJ3 (by omega)
      clear hs2
      subst hW3
      simp only [encM] at hen hy hR ⊢
      gi_wp2
      refine hR.mono ?_
      rintro e W4 ⟨rfl, hJ4, hk4⟩
      gi_wp2
      have hrg4 := hrg3.of_walks hk4
      go_roundw
      case rel => exact ⟨_, cnt2, ss ++ [x], hrg4, by simp; omega, hC.step hkey hlk hat, hJ4⟩
      case measure => rw [hrg4.left_eq, hrg.left_eq]; exact hlt

set_option maxHeartbeats 1000000 in
theorem keysOfM (mb : Option Nat) (W : World) : Calls Try.prog 87 #[.map mb] W fun e w' => e = .returned (.func (.func 105) #[] #[.pointer (some ⟨W.heap.size, 0, none⟩)]) ∧ w' = W.alloc (.cells #[.map mb] 78) := by
  go_enter Try.func87, Try.ntmps87
  go_wp2
  go_ret
  exact ⟨rfl, rfl⟩

theorem givesM {H : Type} (n : Nat) (hn : 1 ≤ n) (Bm b nn : Nat) (D0 : DataW H) {R : Value → Option (DataW H × List MemPlace)} (w : World) (hBm : Bm < w.heap.size)
    (hm : w.cell? ⟨Bm, 0, none⟩ = some (.map (some b))) (hown : w.ownsMap Try.prog 42 R b nn D0) :
    SeqGives Fence.wide n Try.prog 105 #[.pointer (some ⟨Bm, 0, none⟩)] encM (KeysM D0) (Maps.size D0) w := fun l J W hW hJ hY h0 => by
  have hown' : W.ownsMap Try.prog 42 R b nn D0 := by
    have hbl := hown.lt
    obtain ⟨es, clock, hb, Ft, hs, hD⟩ := hown
    exact ⟨es, clock, (hW.block b hbl).trans hb, Ft, hs, hD⟩
  exact keys1M n hn l Bm b nn D0 J hY W hJ ((hW.cell (p := ⟨Bm, 0, none⟩) hBm).trans hm) hown' h0

/-- What the loop of slices.AppendSeq does at each round, out of the function's own text. -/
noncomputable def apAssignM : Code := match Try.f102.body with | some (.seq _ (.seq (.seq _ (.block _ (.rangeFunc _ _ a _))) _)) => a | _ => .skip
noncomputable def apBodyM : Code := match Try.f102.body with | some (.seq _ (.seq (.seq _ (.block _ (.rangeFunc _ _ _ b))) _)) => b | _ => .skip
noncomputable def apRecM (fn : FuncId) (sv : Value) (Bs D : Nat) (st : LoopState) (pend : Option Code) : Loop :=
  { state := st, pending := pend, fn, tmps := #[.slice none 0 0, sv, .pointer (some ⟨Bs, 0, none⟩), undef, .slice none 0 0, undef, sv, undef, undef, undef, undef, undef, undef], params := #[7], assign := apAssignM, body := apBodyM, defers := D }
/-- Between two rounds: the box holds a slice that owns what has come so far. -/
structure ApAtM (w0 : World) (fn : FuncId) (sv : Value) (Bs l D : Nat) (ss : List (ByteArray × ByteArray)) (W : World) : Prop where
  box : ∃ v, W.heap[Bs]? = some (.cells #[v] 25 (0, 0)) ∧ W.ownsRow w0.heap.size 42 2 v ss.length (celsM ss) ∧ (v = .slice none 0 0 ↔ ss = [])
  L : W.heap[l]? = some (.loop (apRecM fn sv Bs D .ready none))
  K : W.heap[D]? = some (.deferred (some []))
  below : Below w0.heap.size w0 W
theorem apAbidesM (w0 : World) (fn : FuncId) (sv : Value) (Bs l D B : Nat) (hB : w0.heap.size ≤ B) : AbidesFrom B (ApAtM w0 fn sv Bs l D) := fun s W W' row h hg hrow => by
  have hrow' : ∀ r, row = some r → ∃ o : Obj, W.heap[r]? = some o ∧ o.isWalk = true := fun r e => (hrow r e).2
  obtain ⟨v, hv, hr, hn⟩ := h.box
  exact ⟨⟨v, (grownBy_keeps hg hrow' hv rfl).trans hv, ownsRow_abides_a hr hg hrow', hn⟩, (grownBy_keeps hg hrow' h.L rfl).trans h.L, (grownBy_keeps hg hrow' h.K rfl).trans h.K,
    h.below.grown hg h.below.size (fun k e => Nat.le_trans hB (hrow k e).1)⟩
theorem infoKM : (Try.prog.info? 42).map (fun i => (i.zero, i.size, i.bytes)) = some (some (.agg #[.string ByteArray.empty, .string ByteArray.empty]), 2, 32) := by kernel_rfl
theorem cellTwoM (W : World) (n : Nat) (hn : n = W.heap.size) (a b : Value) (t : TypeId) : ∀ j u, [a, b][j]? = some u → (W.alloc (.cells #[a, b] t)).cell? ((⟨n, 0, none⟩ : Addr).add j) = some u := by
  subst hn; exact cell_two_new W a b t

set_option maxRecDepth 100000 in
set_option maxHeartbeats 2000000 in
theorem apYieldM (m : Nat) (w0 : World) (fn : FuncId) (sv : Value) (Bs l D : Nat) (hBl : Bs ≠ l) (hDl : D ≠ l) (hDB : D ≠ Bs) (h0B : w0.heap.size ≤ Bs) (h0l : w0.heap.size ≤ l)
    (N : Nat) (hN : N ≤ maxLen) (hNb : N * 32 ≤ 140737488355328) (ss : List (ByteArray × ByteArray)) (x : ByteArray × ByteArray) (W : World) (h : ApAtM w0 fn sv Bs l D ss W) (hlen : ss.length < N) :
    YieldAt Fence.wide m Try.prog l #[encM x] W fun e W' => e = .returned (.bool true) ∧ ApAtM w0 fn sv Bs l D (ss ++ [x]) W' ∧ KeepsWalks W W' := by
  have hne : (25 : TypeId) ≠ 42 := by decide
  obtain ⟨i0, hi, hz0, hz1, hz2⟩ := info_parts infoKM
  obtain ⟨v, hv, hrow, _⟩ := h.box
  refine ⟨fn, #[.slice none 0 0, sv, .pointer (some ⟨Bs, 0, none⟩), undef, .slice none 0 0, undef, sv, encM x, undef, undef, undef, undef, undef], apAssignM, apBodyM, by simpa [apRecM] using run_yield (P := Try.prog) (args := #[encM x]) h.L rfl, roundIn_of_wpIn trivial ?_⟩
  have hl : l < W.heap.size := (Array.getElem?_eq_some_iff.1 h.L).1
  have hBlt : Bs < W.heap.size := (Array.getElem?_eq_some_iff.1 hv).1
  have hDlt : D < W.heap.size := (Array.getElem?_eq_some_iff.1 h.K).1
  obtain ⟨W1, hW1⟩ : ∃ W1, W.alloc (.cells #[.string x.1, .string x.2] 42) = W1 := ⟨_, rfl⟩
  have hs1 : W1.heap.size = W.heap.size + 1 := by rw [← hW1]; simp
  have old1 : ∀ k, k < W.heap.size → W1.heap[k]? = W.heap[k]? := fun k hk => by rw [← hW1]; exact Below.heap_alloc _ _ k hk
  have hL1 : W1.heap[l]? = some (.loop (apRecM fn sv Bs D .ready none)) := (old1 l hl).trans h.L
  have hx01 : W1.cell? ⟨W.heap.size, 0, none⟩ = some (.string x.1) := by rw [← hW1]; exact cellTwoM W _ rfl _ _ _ 0 _ rfl
  have hx11 : W1.cell? ⟨W.heap.size, 1, none⟩ = some (.string x.2) := by rw [← hW1]; exact cellTwoM W _ rfl _ _ _ 1 _ rfl
  have hrow1 : W1.ownsRow w0.heap.size 42 2 v ss.length (celsM ss) := by rw [← hW1]; exact hrow.alloc _
  have hb1 : Below w0.heap.size w0 W1 := by rw [← hW1]; exact h.below.alloc h.below.size _
  have hk1 : KeepsWalks W W1 := by rw [← hW1]; exact KeepsWalks.alloc _ _
  have hbr := run_beginRound (P := Try.prog) hL1 rfl
  obtain ⟨W2, hW2⟩ : ∃ W2, W1.putObj l (.loop { apRecM fn sv Bs D .ready none with state := .busy }) = W2 := ⟨_, rfl⟩
  rw [hW2] at hbr
  have hg2 : W1.grownBy W2 (some l) := by rw [← hW2]; exact grownBy_putObj_a _ _ _
  have hk2 : KeepsWalks W W2 := hk1.trans (by rw [← hW2]; exact KeepsWalks.putObj _ hL1 rfl)
  have hv2 : W2.heap[Bs]? = some (.cells #[v] 25 (0, 0)) := by rw [← hW2]; exact ((World.putObj_heap_other hBl).trans (old1 Bs hBlt)).trans hv
  have hK2 : W2.heap[D]? = some (.deferred (some [])) := by rw [← hW2]; exact ((World.putObj_heap_other hDl).trans (old1 D hDlt)).trans h.K
  have hL2 : W2.heap[l]? = some (.loop { apRecM fn sv Bs D .ready none with state := .busy }) := by rw [← hW2]; exact World.putObj_heap_same (by omega)
  have hrow2 : W2.ownsRow w0.heap.size 42 2 v ss.length (celsM ss) := hrow1.kept hg2 (ownsRow_ne_a hrow1 hL1 (fun cur e => by first | cases e | exact hne (Obj.cells.inj e).2.1))
  have hb2 : Below w0.heap.size w0 W2 := hb1.grown hg2 hb1.size (fun k e => by cases e; exact h0l)
  have hx0 : W2.cell? ⟨W.heap.size, 0, none⟩ = some (.string x.1) := by rw [← hW2]; exact (World.cell?_of_block (World.putObj_heap_other (by show W.heap.size ≠ l; omega))).trans hx01
  have hx1 : W2.cell? ⟨W.heap.size, 1, none⟩ = some (.string x.2) := by rw [← hW2]; exact (World.cell?_of_block (World.putObj_heap_other (by show W.heap.size ≠ l; omega))).trans hx11
  have hs2 : W2.heap.size = W.heap.size + 1 := by rw [← hW2, ← hs1]; simp
  obtain ⟨hc2, hf2⟩ := cell_of_box_a hv2
  have ne_of : ∀ {j : Nat} {o : Obj}, W2.heap[j]? = some o → (∀ cur, o ≠ .cells cur 42 (0, 0)) → some j ≠ v.ownBlock := fun hj hno => by
    rcases ownsRow_ne_a hrow2 hj hno with e | e
    · rw [e]; simp
    · exact fun e' => e e'.symm
  have HS2 := hide hs2
  clear hW2 hx01 hx11 hrow1 hb1 hk1 hg2 hs1 hs2
  dsimp only [apAssignM, apBodyM, Try.f102, encM]
  clear hL1 old1
  gi_wp2_with (first
    | (gi_at_builtin; refine wpListIn_append_own _ rfl _ _ 25 rfl w0.heap.size 42 i0 _ 2 32 Try.underlying25 hi hz0 hz1 hz2 rfl (by decide) _ _ _ rfl (hrow2.alloc _) ⟨W2.heap.size, 0, none⟩ 1 1 (celM x) rfl rfl (cellTwoM _ _ rfl _ _ _) (fun u hu => by simp [celM] at hu; rcases hu with rfl | rfl <;> rfl) (by omega) (by omega) (by have := hb2.size; simp; omega) ?_; intro v' w3 hown' hg3 hnil3
       have hs2 := unhide HS2
       have hv3 : w3.heap[Bs]? = some (.cells #[v] 25 (0, 0)) := (hg3.block Bs (by simp; omega) (ne_of hv2 (fun cur e => by first | cases e | exact hne (Obj.cells.inj e).2.1))).trans ((Below.heap_alloc _ _ Bs (by omega)).trans hv2)
       obtain ⟨hc3, hf3⟩ := cell_of_box_a hv3
       obtain ⟨g', cap', cur', rfl, hbase', hgb', hr1, hr2, hr3, hr4⟩ : ∃ g' cap' cur', v' = .slice (some ⟨g', 0, none⟩) (ss.length + 1) cap' ∧ w0.heap.size ≤ g' ∧ w3.heap[g']? = some (.cells cur' 42 (0, 0)) ∧ ss.length + 1 ≤ cap' ∧ cap' ≤ maxLen ∧ cur'.size = cap' * 2 ∧ cur'.toList.take ((ss.length + 1) * 2) = celsM ss ++ celM x := by
         rcases hown'.2 with ⟨_, h0⟩ | h'
         · exact absurd h0 (by omega)
         · exact h'
       clear hs2
       go_frame)
    | gi_round_op_a)
  have hs2 := unhide HS2
  have hg3' : (W2.alloc (.cells (celM x).toArray 42)).grownBy w3 v.ownBlock := hg3
  have hL3 : w3.heap[l]? = some (.loop { apRecM fn sv Bs D .ready none with state := .busy }) := (hg3'.block l (by simp; omega) (ne_of hL2 (fun cur e => by first | cases e | exact hne (Obj.cells.inj e).2.1))).trans ((Below.heap_alloc _ _ l (by omega)).trans hL2)
  have hK3 : w3.heap[D]? = some (.deferred (some [])) := (hg3'.block D (by simp; omega) (ne_of hK2 (fun cur e => by first | cases e | exact hne (Obj.cells.inj e).2.1))).trans ((Below.heap_alloc _ _ D (by omega)).trans hK2)
  obtain ⟨w4, hw4⟩ : ∃ w4, w3.setCell ⟨Bs, 0, none⟩ (.slice (some ⟨g', 0, none⟩) (ss.length + 1) cap') = w4 := ⟨_, rfl⟩
  rw [hw4]
  have hg4 : w3.grownBy w4 (some Bs) := by rw [← hw4]; exact grownBy_setCell0_a _ _ _
  have hv4 : w4.heap[Bs]? = some (.cells #[.slice (some ⟨g', 0, none⟩) (ss.length + 1) cap'] 25 (0, 0)) := by rw [← hw4]; exact heap_setCell_box_a _ hv3
  have hL4 : w4.heap[l]? = some (.loop { apRecM fn sv Bs D .ready none with state := .busy }) := (hg4.block l (Array.getElem?_eq_some_iff.1 hL3).1 (fun e => hBl (by cases e; rfl))).trans hL3
  have hK4 : w4.heap[D]? = some (.deferred (some [])) := (hg4.block D (Array.getElem?_eq_some_iff.1 hK3).1 (fun e => hDB (by cases e; rfl))).trans hK3
  have hrow4 := hown'.kept hg4 (ownsRow_ne_a hown' hv3 (fun cur e => by first | cases e | exact hne (Obj.cells.inj e).2.1))
  have hl4 : l < w4.heap.size := (Array.getElem?_eq_some_iff.1 hL4).1
  have hb3 : Below w0.heap.size w0 w3 := (hb2.alloc hb2.size _).grown hg3' (by have := hb2.size; simp; omega) (fun k e => (hrow2.lt k e).1)
  have hb4 : Below w0.heap.size w0 w4 := hb3.grown hg4 hb3.size (fun k e => by cases e; exact h0B)
  have hk4 : KeepsWalks W w4 := ((hk2.trans (KeepsWalks.alloc _ _)).trans (KeepsWalks.of_grownBy hg3' (ownsRow_not_walk_a (hrow2.alloc _)))).trans (by rw [← hw4]; exact KeepsWalks.setCell _ _ _)
  clear hw4
  refine ⟨_, _, run_endRound none hL4, rfl, ⟨⟨_, (World.putObj_heap_other hBl).trans hv4, ?_, by simp⟩, World.putObj_heap_same hl4, (World.putObj_heap_other hDl).trans hK4, hb4.grown (grownBy_putObj_a _ _ _) hb4.size (fun k e => by cases e; exact h0l)⟩, hk4.trans (KeepsWalks.putObj _ hL4 rfl)⟩
  rw [celsM_snoc, List.length_append]
  exact hrow4.kept (grownBy_putObj_a w4 l _) (ownsRow_ne_a hrow4 hL4 (fun cur e => by first | cases e | exact hne (Obj.cells.inj e).2.1))

set_option maxRecDepth 100000 in
set_option maxHeartbeats 2000000 in
/-- slices.AppendSeq(nil, seq) against whatever iterator. -/
theorem appendSeqM (n : Nat) (hn : 2 ≤ n) (g : Nat) (lb : Array Value) (eg : ∀ args w, (callFunc g args).run Try.prog w = .ok (.enter g args) w)
    (S : List (ByteArray × ByteArray) → Prop) (N : Nat) (hN : N ≤ maxLen) (hNb : N * 32 ≤ 140737488355328) (w : World) (hseq : SeqGives Fence.wide (n - 1) Try.prog g lb encM S N w) :
    CallsIn Fence.wide n Try.prog 102 #[.slice none 0 0, .func (.func g) #[] lb] w fun e w' => ∃ (v : Value) (ss : List (ByteArray × ByteArray)), e = .returned v ∧ S ss ∧ w'.ownsRow w.heap.size 42 2 v ss.length (celsM ss) ∧ (v = .slice none 0 0 ↔ ss = []) ∧ Below w.heap.size w w' := by
  have h1 : 1 ≤ n := by omega
  have hne : (25 : TypeId) ≠ 42 := by decide
  refine callsIn_of_wp_marks Try.func102 rfl trivial ?_ rfl
  simp only [Try.ntmps102, List.size_toArray, List.length_cons, List.length_nil, Nat.reduceAdd, Nat.reduceSub, Array.replicate_succ, Array.replicate_zero, List.push_toArray, List.append_toArray, List.nil_append, List.cons_append]
  gi_wp2
  refine wpIn_rangeFunc ?_
  intro fn hfn
  obtain ⟨W0, hW0⟩ : ∃ W0, w.alloc (.cells #[.slice none 0 0] 25) = W0 := ⟨_, rfl⟩
  have hs0 : W0.heap.size = w.heap.size + 1 := by rw [← hW0]; simp
  have hv0 : W0.heap[w.heap.size]? = some (.cells #[.slice none 0 0] 25 (0, 0)) := by rw [← hW0]; exact World.alloc_heap_new w _
  have hb0 : Below w.heap.size w W0 := by rw [← hW0]; exact (Below.refl _ w).alloc (Nat.le_refl _) _
  rw [hW0]
  obtain ⟨W1, hW1⟩ : ∃ W1, (W0.alloc (.deferred (some []))).alloc (.loop (apRecM fn (.func (.func g) #[] lb) w.heap.size W0.heap.size .ready none)) = W1 := ⟨_, rfl⟩
  have hold : ∀ k, k < W0.heap.size → W1.heap[k]? = W0.heap[k]? := fun k hk => by
    rw [← hW1]; exact (Below.heap_alloc _ _ k (by simp; omega)).trans (Below.heap_alloc _ _ k hk)
  have hb1 : Below w.heap.size w W1 := by rw [← hW1]; exact (hb0.alloc hb0.size _).alloc (by have := hb0.size; simp; omega) _
  have hs1 : W1.heap.size = W0.heap.size + 2 := by rw [← hW1]; simp
  have hM : ApAtM w fn (.func (.func g) #[] lb) w.heap.size (W0.heap.size + 1) W0.heap.size [] W1 :=
    ⟨⟨_, (hold w.heap.size (by omega)).trans hv0, ⟨rfl, .inl ⟨rfl, rfl⟩⟩, by simp⟩,
     by rw [← hW1]; have := World.alloc_heap_new (W0.alloc (.deferred (some []))) (.loop (apRecM fn (.func (.func g) #[] lb) w.heap.size W0.heap.size .ready none)); rwa [World.size_alloc] at this,
     by rw [← hW1]; exact (Below.heap_alloc _ _ _ (by simp)).trans (World.alloc_heap_new W0 _), hb1⟩
  refine ⟨W0.heap.size + 1, [{ target := .collected W0.heap.size, args := #[] }], W1, { target := .fn (.func g) lb, args := #[.func (.yield (W0.heap.size + 1)) #[] #[]] }, W1, g,
    #[.func (.yield (W0.heap.size + 1)) #[] #[]] ++ lb, W1, ?_, ?_, ?_, ?_, fun _ => h1, ?_⟩
  · rw [← hW1]; exact run_enterLoop_outer _ _ _ _ _
  · simp [resolve, go_sem]
  · intro f' hf'; trivial
  · simp [invoke, go_sem, eg]
  · refine (hseq (W0.heap.size + 1) (ApAtM w fn (.func (.func g) #[] lb) w.heap.size (W0.heap.size + 1) W0.heap.size) W1 hb1 (apAbidesM _ _ _ _ _ _ _ hb1.size)
      (fun pre x W hJ hl => apYieldM (n - 1 - 1) w fn _ w.heap.size (W0.heap.size + 1) W0.heap.size (by omega) (by omega) (by omega) (Nat.le_refl _) (by omega) N hN hNb pre x W hJ hl) hM).mono ?_
    rintro e W2 ⟨⟨v0, rfl⟩, ss, hS, h2⟩
    obtain ⟨v, hv, hrow, hnil⟩ := h2.box
    have hend := run_endLoop (P := Try.prog) h2.L (by simp [apRecM])
    obtain ⟨W3, hW3⟩ : ∃ W3, W2.putObj (W0.heap.size + 1) (.loop { apRecM fn (.func (.func g) #[] lb) w.heap.size W0.heap.size .ready none with state := .exhausted }) = W3 := ⟨_, rfl⟩
    rw [hW3] at hend
    have hg3 : W2.grownBy W3 (some (W0.heap.size + 1)) := by rw [← hW3]; exact grownBy_putObj_a _ _ _
    have hv3 : W3.heap[w.heap.size]? = some (.cells #[v] 25 (0, 0)) := by rw [← hW3]; exact (World.putObj_heap_other (by omega)).trans hv
    have hK3 : W3.heap[W0.heap.size]? = some (.deferred (some [])) := by rw [← hW3]; exact (World.putObj_heap_other (by omega)).trans h2.K
    have hrow3 := hrow.kept hg3 (ownsRow_ne_a hrow h2.L (fun cur e => by first | cases e | exact hne (Obj.cells.inj e).2.1))
    have hb3 : Below w.heap.size w W3 := h2.below.grown hg3 h2.below.size (fun k e => by cases e; omega)
    obtain ⟨hc3, hf3⟩ := cell_of_box_a hv3
    clear hW3
    refine ⟨none, W3, hend, ?_⟩
    gi_wp2
    rw [← hs0]
    refine ⟨by simp, .inl ⟨_, _, rfl, run_takeDeferred hK3, ?_⟩⟩
    exact ⟨_, results_tmp rfl _ _ _, v, ss, rfl, hS, hrow3.kept (grownBy_putObj_a _ _ _) (ownsRow_ne_a hrow3 hK3 (fun cur e => by first | cases e | exact hne (Obj.cells.inj e).2.1)), hnil, hb3.grown (grownBy_putObj_a _ _ _) hb3.size (fun k e => by cases e; omega)⟩

set_option maxHeartbeats 1000000 in
/-- slices.Collect(seq) against whatever iterator. -/
theorem collectM (g : Nat) (lb : Array Value) (eg : ∀ args w, (callFunc g args).run Try.prog w = .ok (.enter g args) w)
    (S : List (ByteArray × ByteArray) → Prop) (N : Nat) (hN : N ≤ maxLen) (hNb : N * 32 ≤ 140737488355328) (w : World) (hseq : SeqGives Fence.wide 4 Try.prog g lb encM S N w) :
    Calls Try.prog 83 #[.func (.func g) #[] lb] w fun e w' => ∃ (v : Value) (ss : List (ByteArray × ByteArray)), e = .returned v ∧ S ss ∧ w'.ownsRow w.heap.size 42 2 v ss.length (celsM ss) ∧ (v = .slice none 0 0 ↔ ss = []) ∧ Below w.heap.size w w' := by
  have qa := hide ((callsIn_wide (n := 5)).1 (appendSeqM 5 (by omega) g lb eg S N hN hNb w hseq))
  go_enter Try.func83, Try.ntmps83
  go_wp2_with fail
  refine (unhide qa).mono ?_
  rintro e w' ⟨v, ss, rfl, hS, hrow, hnil, hb⟩
  go_wp2_with fail
  go_ret
  exact ⟨v, ss, rfl, hS, hrow, hnil, hb⟩
end Go.Proofs.Ytakjnbdjjeccoaa
