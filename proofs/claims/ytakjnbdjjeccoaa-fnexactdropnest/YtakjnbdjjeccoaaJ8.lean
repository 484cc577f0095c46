/- GJoi, GGf, one behind the other. -/
import Derived.Test.YtakjnbdjjeccoaaJ7
import Derived.Test.YtakjnbdjjeccoaaJ4
import Derived.Test.YtakjnbdjjeccoaaJ6
/- A graph of names in memory: a map of maps; (impl.set[string]).add, (impl.graph[string]).join. -/
namespace Go.Proofs.Ytakjnbdjjeccoaa
open Go.RowKit Go.Maps

abbrev Bs := ByteArray
open Classical in
/-- What the map of a's kids holds. -/
noncomputable def setF (es : List (Bs × Bs)) (a : Bs) : Bs → Option Value := fun x => if (a, x) ∈ es then some (.agg #[]) else none
theorem setF_cons (es : List (Bs × Bs)) (a x : Bs) : setF ((a, x) :: es) a = updK (setF es a) x (.agg #[]) := by
  funext y
  unfold setF updK
  by_cases h : y = x
  · subst h; simp
  · have : ((a, y) ∈ (a, x) :: es) ↔ (a, y) ∈ es := by simp [h]
    rw [if_neg h]
    by_cases hy : (a, y) ∈ es
    · simp only []; rw [if_pos hy, if_pos (this.2 hy)]
    · simp only []; rw [if_neg hy, if_neg (fun q => hy (this.1 q))]
theorem setF_other (es : List (Bs × Bs)) {a a' : Bs} (x : Bs) (h : a' ≠ a) : setF ((a, x) :: es) a' = setF es a' := by
  funext y
  unfold setF
  have : ((a', y) ∈ (a, x) :: es) ↔ (a', y) ∈ es := by simp [h]
  by_cases hy : (a', y) ∈ es
  · rw [if_pos hy, if_pos (this.2 hy)]
  · rw [if_neg hy, if_neg (fun q => hy (this.1 q))]
theorem setF_none {es : List (Bs × Bs)} {a : Bs} (h : ¬ ∃ x, (a, x) ∈ es) : setF es a = fun _ => none := by
  funext y
  unfold setF
  rw [if_neg (fun hy => h ⟨y, hy⟩)]

/-- What the map of a graph holds. -/
def topM (tab : Bs → Option Nat) : Bs → Option Value := fun a => (tab a).map fun b => Value.map (some b)
/-- All old blocks but maps at lo or above are as they were. -/
structure KeptJ (lo : Nat) (w w' : World) : Prop where
  os : w'.os = w.os
  tape : w'.tape = w.tape
  output : w'.output = w.output
  size : w.heap.size ≤ w'.heap.size
  block : ∀ k, k < w.heap.size → (k < lo ∨ ∀ es c, w.heap[k]? ≠ some (.map es c)) → w'.heap[k]? = w.heap[k]?
theorem KeptJ.refl (lo : Nat) (w : World) : KeptJ lo w w := ⟨rfl, rfl, rfl, Nat.le_refl _, fun _ _ _ => rfl⟩
theorem KeptJ.trans {lo : Nat} {a b c : World} (h : KeptJ lo a b) (k : KeptJ lo b c) : KeptJ lo a c :=
  ⟨k.os.trans h.os, k.tape.trans h.tape, k.output.trans h.output, Nat.le_trans h.size k.size, fun i hi hp => by
    have e := h.block i hi hp
    refine (k.block i (Nat.lt_of_lt_of_le hi h.size) ?_).trans e
    rw [e]; exact hp⟩
theorem KeptJ.alloc (lo : Nat) (w : World) (o : Obj) : KeptJ lo w (w.alloc o) := ⟨rfl, rfl, rfl, by simp, fun k hk _ => Below.heap_alloc _ _ _ hk⟩
theorem KeptJ.grown {lo b : Nat} {w w' : World} {α : Type} {enc : α → Value} {P : Program} {k : TypeId} {n : Nat} {m : α → Option Value} (hm : KM P k enc w b n m) (hb : lo ≤ b) (hg : w.grownBy w' (some b)) : KeptJ lo w w' :=
  ⟨hg.os, hg.tape, hg.output, hg.size, fun i hi hp => hg.block i hi (fun e => by
    cases e
    obtain ⟨D, ⟨es, c, h1, _⟩, _⟩ := hm
    rcases hp with h | h
    · omega
    · exact h es c h1)⟩
theorem KeptJ.below {lo : Nat} {w w' : World} (h : KeptJ lo w w') (hlo : lo ≤ w.heap.size) : Below lo w w' :=
  ⟨h.os, h.tape, h.output, h.size, fun k hk => h.block k (by omega) (.inl hk)⟩
theorem KeptJ.row {lo b : Nat} {w w' : World} {C : Array Value} {T : TypeId} (h : KeptJ lo w w') (hr : RowIs w b C T) : RowIs w' b C T := by
  have hl := hr.lt
  unfold RowIs at *
  rw [h.block b hl (.inr fun es c e => by rw [hr] at e; cases e)]; exact hr
theorem KeptJ.kr {lo b r n cnt : Nat} {w w' : World} {α : Type} {enc : α → Value} {P : Program} {k : TypeId} {m : α → Option Value} {done : α → Prop} (h : KeptJ lo w w') (hr : KR P k enc w b r n m done cnt) (hb : b < lo) : KR P k enc w' b r n m done cnt := by
  have l1 := hr.lt
  have l2 := hr.owns.lt
  refine hr.block (h.block b l2 (.inl hb)) (h.block r l1 (.inr fun es c e => ?_))
  obtain ⟨D, left, ⟨_, _, _, _, _, _, _, _, _, x5, _⟩, _⟩ := hr
  rw [x5] at e; cases e

/-- Block bg is a graph: its edges are es; tab tells where the kids' maps are. -/
structure GM (w : World) (lo bg n : Nat) (es : List (Bs × Bs)) (tab : Bs → Option Nat) : Prop where
  base : lo ≤ bg
  top : KM Try.prog 9 Value.string w bg n (topM tab)
  kid : ∀ a b, tab a = some b → KM Try.prog 9 Value.string w b n (setF es a)
  inj : ∀ a a' b, tab a = some b → tab a' = some b → a = a'
  ge : ∀ a b, tab a = some b → lo ≤ b ∧ b ≠ bg
  has : ∀ a, (tab a).isSome = true ↔ ∃ x, (a, x) ∈ es
  ok : ∀ a x, (a, x) ∈ es → a.size ≤ maxLen ∧ x.size ≤ maxLen
theorem GM.keepB {w w' : World} {lo bg n B : Nat} {es : List (Bs × Bs)} {tab : Bs → Option Nat} (h : GM w lo bg n es tab) (hb : Below B w w') (hB : w.heap.size ≤ B) : GM w' lo bg n es tab :=
  ⟨h.base, h.top.keepB hb (Nat.lt_of_lt_of_le h.top.lt hB), fun a b e => (h.kid a b e).keepB hb (Nat.lt_of_lt_of_le (h.kid a b e).lt hB), h.inj, h.ge, h.has, h.ok⟩
theorem GM.grown {w w' : World} {lo bg n : Nat} {es : List (Bs × Bs)} {tab : Bs → Option Nat} {row : Option Nat} (h : GM w lo bg n es tab) (hg : w.grownBy w' row) (hr : ∀ r, row = some r → ∀ e c, w.heap[r]? ≠ some (.map e c)) : GM w' lo bg n es tab := by
  have aux : ∀ (b : Nat) (m : Bs → Option Value), KM Try.prog 9 Value.string w b n m → KM Try.prog 9 Value.string w' b n m := fun b m hm => hm.kept hg (fun e => by
    obtain ⟨D, ⟨es, c, h1, _⟩, _⟩ := hm
    exact hr b e.symm es c h1)
  exact ⟨h.base, aux _ _ h.top, fun a b e => aux _ _ (h.kid a b e), h.inj, h.ge, h.has, h.ok⟩
theorem GM.made (w : World) (lo : Nat) (h : lo ≤ w.heap.size) : GM (w.alloc (.map #[] 0)) lo w.heap.size 0 [] (fun _ => none) :=
  ⟨h, KM.made _ _ _ _, (fun a b e => by cases e), (fun a a' b e => by cases e), (fun a b e => by cases e), (fun a => by simp), (fun a x h => by simp at h)⟩

set_option maxHeartbeats 400000 in
theorem add_any (b n : Nat) (m : Bs → Option Value) (x : Bs) (w : World) (hm : KM Try.prog 9 Value.string w b n m) (hn : n < maxLen) (hx : x.size ≤ maxLen) :
    Calls Try.prog 101 #[.map (some b), .string x] w fun e w' => e = .returned (.tuple #[]) ∧ KM Try.prog 9 Value.string w' b (n + 1) (updK m x (.agg #[])) ∧ w.grownBy w' (some b) ∧ w'.heap.size = w.heap.size := by
  have HM := hide hm
  clear hm
  go_enter Try.func101, Try.ntmps101
  go_wp2_with (at_mapUpdate; refine wpList_put_km _ kStr rfl _ _ _ _ rfl _ Try.underlying98 b n m rfl (unhide HM) hn x _ rfl rfl hx ?_; intro w1 h1 h2 h3)
  go_end0
  exact ⟨rfl, h1, h2, h3⟩

theorem zeroSet (w : World) : (zeroValue 98).run Try.prog w = .ok (.map none) w := by kernel_rfl
theorem zeroInt (w : World) : (zeroValue 3).run Try.prog w = .ok (.int .i64 0) w := by kernel_rfl
theorem eqMapS (b : Nat) (w : World) : (binOp BinOp.eql 98 (.map (some b)) (.map none)).run Try.prog w = .ok (.bool false) w := by kernel_rfl
theorem eqMapN (w : World) : (binOp BinOp.eql 98 (.map none) (.map none)).run Try.prog w = .ok (.bool true) w := by kernel_rfl
theorem updTab {tab : Bs → Option Nat} (f : Bs) (b : Nat) : topM (fun y => if y = f then some b else tab y) = updK (topM tab) f (Value.map (some b)) := by
  funext a
  unfold updK topM
  by_cases h : a = f
  · simp [h]
  · simp [h]

set_option maxRecDepth 100000 in
set_option maxHeartbeats 1000000 in
theorem join_any (lo bg n : Nat) (es : List (Bs × Bs)) (tab : Bs → Option Nat) (f t : Bs) (w : World) (hG : GM w lo bg n es tab) (hlo : lo ≤ w.heap.size) (hn : n < 1000000) (hf : f.size ≤ maxLen) (ht : t.size ≤ maxLen) :
    Calls Try.prog 82 #[.map (some bg), .string f, .string t] w fun e w' => e = .returned (.tuple #[]) ∧ (∃ tab', GM w' lo bg (n + 1) ((f, t) :: es) tab') ∧ KeptJ lo w w' := by
  have hnm : n < maxLen := by unfold maxLen; omega
  cases hT : tab f with
  | some b =>
    have HG := hide hG
    have HT := hide hT
    have e1 := hide (show ((topM tab) f).getD (.map none) = Value.map (some b) by simp [topM, hT])
    have q := hide (fun w hm => add_any b n (setF es f) t w hm hnm ht)
    clear hG hT
    have eqS := eqMapS
    have eqN := eqMapN
    go_enter Try.func82, Try.ntmps82
    go_wp2_with (at_lookup; refine wpList_get_km _ kStr rfl _ _ _ rfl _ Try.underlying60 (zeroSet _) bg n _ rfl (unhide HG).top f rfl hf _ (unhide e1) ?_)
    refine (unhide q _ ((unhide HG).kid _ _ (unhide HT))).mono ?_
    rintro e w1 ⟨rfl, h1, h2, h3⟩
    have G := unhide HG
    have T := unhide HT
    have ne : some bg ≠ some b := fun e => by cases e; exact (G.ge f _ T).2 rfl
    have FIN : (∃ tab', GM w1 lo bg (n + 1) ((f, t) :: es) tab') ∧ KeptJ lo w w1 := by
      refine ⟨⟨tab, G.base, (G.top.kept h2 ne).more (by omega), fun a b' e => ?_, G.inj, G.ge, fun a => ?_, fun a x h => ?_⟩, KeptJ.grown (G.kid _ _ T) (G.ge _ _ T).1 h2⟩
      · by_cases ha : a = f
        · subst ha
          obtain rfl : b' = b := by rw [T] at e; exact (Option.some.inj e).symm
          rw [setF_cons]; exact h1
        · rw [setF_other _ _ ha]
          exact ((G.kid a b' e).kept h2 (fun e2 => by cases e2; exact ha (G.inj _ _ _ e T))).more (by omega)
      · rw [G.has a]
        constructor
        · rintro ⟨x, hx⟩; exact ⟨x, List.mem_cons_of_mem _ hx⟩
        · rintro ⟨x, hx⟩
          rcases List.mem_cons.1 hx with e | e
          · cases e; exact (G.has _).1 (by rw [T]; rfl)
          · exact ⟨x, e⟩
      · rcases List.mem_cons.1 h with e | e
        · cases e; exact ⟨hf, ht⟩
        · exact G.ok a x e
    have FH := hide FIN
    clear FIN G T ne h1 h2 h3 HG HT q
    go_wp2_with fail
    go_end0
    exact ⟨rfl, unhide FH⟩
  | none =>
    have HG := hide hG
    have HT := hide hT
    have e1 := hide (show ((topM tab) f).getD (.map none) = Value.map none by simp [topM, hT])
    have e2 := hide (show (updK (topM tab) f (Value.map (some w.heap.size)) f).getD (.map none) = Value.map (some w.heap.size) by simp [updK])
    have q := hide (fun w0 hm => add_any w.heap.size 0 (fun _ => none) t w0 hm (by unfold maxLen; omega) ht)
    have GT := hide (hG.top.kept (World.grownBy_alloc w (.map #[] 0) none) (by simp))
    have KI := hide (KM.made Try.prog 9 Value.string w)
    have hlt := hide hG.top.lt
    have hmm := @run_makeMap Try.prog
    clear hG hT
    have eqS := eqMapS
    have eqN := eqMapN
    go_enter Try.func82, Try.ntmps82
    go_wp2_with (first
      | (at_lookup; refine wpList_get_km _ kStr rfl _ _ _ rfl _ Try.underlying60 (zeroSet _) bg n _ rfl (unhide HG).top f rfl hf _ (unhide e1) ?_)
      | (at_mapUpdate; refine wpList_put_km _ kStr rfl _ _ _ _ rfl _ Try.underlying60 bg n _ rfl (unhide GT) hnm f _ rfl rfl hf ?_; intro w1 h1 h2 h3; have H1 := hide h1; have H2 := hide h2; have H3 := hide h3; clear h1 h2 h3)
      | (at_lookup; refine wpList_get_km _ kStr rfl _ _ _ rfl _ Try.underlying60 (zeroSet _) bg (n + 1) _ rfl (unhide H1) f rfl hf _ (unhide e2) ?_))
    have nb : some w.heap.size ≠ some bg := fun e => by cases e; exact Nat.lt_irrefl _ (unhide hlt)
    refine (unhide q _ ((unhide KI).kept (unhide H2) nb)).mono ?_
    rintro e w2 ⟨rfl, h1, h2, h3⟩
    have G := unhide HG
    have T := unhide HT
    have FIN : (∃ tab', GM w2 lo bg (n + 1) ((f, t) :: es) tab') ∧ KeptJ lo w w2 := by
      have hno : ¬ ∃ x, (f, x) ∈ es := fun h => by have := (G.has f).2 h; rw [T] at this; cases this
      refine ⟨⟨fun y => if y = f then some w.heap.size else tab y, G.base, ?_, fun a b' e => ?_, fun a a' b' e e' => ?_, fun a b' e => ?_, fun a => ?_, fun a x h => ?_⟩, ?_⟩
      · rw [updTab]
        exact (unhide H1).kept h2 (fun e => nb e.symm)
      · by_cases ha : a = f
        · subst ha
          simp at e
          subst e
          rw [setF_cons, setF_none hno]
          exact h1.more (by omega)
        · simp [ha] at e
          rw [setF_other _ _ ha]
          have hl := (G.kid a b' e).lt
          refine ((((G.kid a b' e).kept (World.grownBy_alloc w (.map #[] 0) none) (by simp)).kept (unhide H2) (fun e2 => ?_)).kept h2 (fun e2 => ?_)).more (by omega)
          · cases e2; exact (G.ge a _ e).2 rfl
          · cases e2; exact Nat.lt_irrefl _ hl
      · by_cases ha : a = f <;> by_cases ha' : a' = f
        · rw [ha, ha']
        · simp [ha, ha'] at e e'
          subst e
          exact absurd (G.kid a' _ e').lt (Nat.lt_irrefl _)
        · simp [ha, ha'] at e e'
          subst e'
          exact absurd (G.kid a _ e).lt (Nat.lt_irrefl _)
        · simp [ha, ha'] at e e'
          exact G.inj _ _ _ e e'
      · by_cases ha : a = f
        · simp [ha] at e
          subst e
          exact ⟨hlo, fun e => nb (by rw [e])⟩
        · simp [ha] at e
          exact G.ge a b' e
      · by_cases ha : a = f
        · subst ha; simp
        · simp [ha]
          rw [G.has a]
      · rcases List.mem_cons.1 h with e | e
        · cases e; exact ⟨hf, ht⟩
        · exact G.ok a x e
      · exact ((KeptJ.alloc lo w _).trans (KeptJ.grown (unhide GT) G.base (unhide H2))).trans (KeptJ.grown ((unhide KI).kept (unhide H2) nb) hlo h2)
    have FH := hide FIN
    clear FIN G T nb h1 h2 h3 HG HT q H1 H2 H3
    go_wp2_with fail
    go_end0
    exact ⟨rfl, unhide FH⟩
end Go.Proofs.Ytakjnbdjjeccoaa
/- Good lists of nests: impl.rising, goodList, GoodNests; spec.GoodNests. -/
namespace Go.Proofs.Ytakjnbdjjeccoaa
open Go.RowKit

def cNe (x y : NestT) : Int := cmpNe x.f0 x.f1 y.f0 y.f1
def gNe (x : NestT) : Bool := gNest x.f0 x.f1
def RisNs (m : List NestT) (k : Nat) : Prop := ∀ i (h : i < m.length), 0 < i → i < k → cNe m[i - 1] m[i] < 0
theorem RisNs.step {l : List NestT} {k : Nat} (h : RisNs l k) (hk : k < l.length) (g : 0 < k → cNe l[k - 1] l[k] < 0) : RisNs l (k + 1) := by
  intro i hi h0 h1
  rcases Nat.lt_or_ge i k with h2 | h2
  · exact h i hi h0 h2
  · obtain rfl : i = k := by omega
    exact g h0
def AllG (l : List NestT) (k : Nat) : Prop := ∀ i (h : i < l.length), i < k → gNe l[i] = true
theorem AllG.step {l : List NestT} {k : Nat} (h : AllG l k) (hk : k < l.length) (g : gNe l[k] = true) : AllG l (k + 1) := by
  intro i hi h1
  rcases Nat.lt_or_ge i k with h2 | h2
  · exact h i hi h2
  · obtain rfl : i = k := by omega
    exact g
/-- A good list of nests. -/
def GoodL (l : List NestT) : Prop := l.length ≤ 200 ∧ AllG l l.length ∧ RisNs l l.length

set_option maxHeartbeats 1000000 in
theorem risingNs_any (a : Option Addr) (len cap : Nat) (l : List NestT) (w : World) (hl : len ≤ 1000) (hs : SlNest w a len l) :
    Calls Try.prog 47 #[.slice a len cap, .func (.func 48) #[] #[]] w fun e w' => RetB e (RisNs l l.length) ∧ Below w.heap.size w w' := by
  have HS := hide hs
  clear hs
  go_enter Try.func47, Try.ntmps47
  go_wp2
  go_loopw [5] (fun i w' => ∃ k : Nat, 1 ≤ k ∧ (k ≤ len ∨ k = 1) ∧ i = .int .i64 k ∧ Hid (Below w.heap.size w w') ∧ Hid (RisNs l k)) (fun i _ => len - (Go.RowKit.intOf i).toNat)
  case atStart => exact ⟨1, Nat.le_refl _, .inr rfl, rfl, hide (Below.refl _ _), hide (fun i _ h h' => absurd h (by omega))⟩
  case round =>
    obtain ⟨k, hk1, hk, rfl, hb, hris⟩ := hrel
    by_cases hlt : k < len
    · obtain ⟨j, rfl⟩ : ∃ j, k = j + 1 := ⟨k - 1, by omega⟩
      have hk' : j + 1 < l.length := by rw [← (unhide HS).1]; exact hlt
      obtain ⟨b, off, rfl, hrow⟩ := ((unhide HS).keep (unhide hb)).at hlt
      have zk := hrow.z
      have p0 := hrow.c0 (j + 1) hk'
      have p1 := hrow.c1 (j + 1) hk'
      have q0 := hrow.c0 j (by omega)
      have q1 := hrow.c1 j (by omega)
      have qc := hide (fun w => (compareNests_gr (l[j]'(by omega)).f0 (l[j]'(by omega)).f1 (l[j + 1]'hk').f0 (l[j + 1]'hk').f1 w).mono (fun e w' (h : _ ∧ Gr w w') => And.intro h.1 h.2.below))
      have stepR := hide (fun g : cNe (l[j]'(by omega)) (l[j + 1]'hk') < 0 => (unhide hris).step hk' (fun _ => g))
      have noR := hide (fun (g : ¬ cNe (l[j]'(by omega)) (l[j + 1]'hk') < 0) (h : RisNs l l.length) => g (h (j + 1) hk' (by omega) hk'))
      clear hrow
      unfold cNe at stepR noR
      generalize l[j + 1] = P at *
      generalize l[j] = Q at *
      have ne : Nonempty (Kept wr) := ⟨⟨wr, Below.refl _ _⟩⟩
      have x0 := kept_cell zk p0
      have y0 := kept_cell zk q0
      have x1 := kept_cell zk p1
      have y1 := kept_cell zk q1
      have ej : IntKind.i64.wrap ((j : Int) + 1 - 1) = (j : Int) := by rw [IntKind.wrap_i64]; omega
      have i0 : (0 : Int) ≤ (j : Int) := by omega
      have i1 : (j : Int) < (len : Int) := by omega
      have i2 : (j : Int) + 1 < (len : Int) := by omega
      clear p0 q0 p1 q1
      generalize cmpNe Q.f0 Q.f1 P.f0 P.f1 = V at qc stepR noR
      by_cases hc : V < 0
      · have dc : decide (0 ≤ V) = false := by simp; omega
        replace stepR := hide (unhide stepR hc)
        clear hc
        go_wp2_with fail
        refine wp_region_kept (by kernel_rfl) (by kernel_rfl) ?_
        repeat (first
          | go_big_quiet_step ((go_at_call 48; exact kept_call (unhide qc _)))
          | quiet_step ((go_at_call 48; exact kept_call (unhide qc _))))
        refine wpQuiet_nil ?_
        rintro _ ⟨q, rfl⟩
        go_wp2_with fail
        exact ⟨⟨j + 1 + 1, by omega, by omega, by go_num, hide (bTr (unhide hb) q.h), stepR⟩, by simp [Go.RowKit.intOf]; omega⟩
      · have dc : decide (0 ≤ V) = true := by simp; omega
        replace noR := hide (unhide noR hc)
        clear hc
        go_wp2_with fail
        refine wp_region_kept (by kernel_rfl) (by kernel_rfl) ?_
        repeat (first
          | go_big_quiet_step ((go_at_call 48; exact kept_call (unhide qc _)))
          | quiet_step ((go_at_call 48; exact kept_call (unhide qc _))))
        refine wpQuiet_nil ?_
        rintro _ ⟨q, rfl⟩
        go_wp2_with fail
        go_ret
        exact ⟨retB (b := false) ⟨fun h => (by cases h), fun h => absurd h (unhide noR)⟩, bTr (unhide hb) q.h⟩
    · have hR : Hid (RisNs l l.length) := hide (fun i h h0 h1 => by
        have hl' := (unhide HS).1
        exact unhide hris i h h0 (by omega))
      go_wp2_with fail
      go_ret
      exact ⟨retB (b := true) ⟨fun _ => unhide hR, fun _ => rfl⟩, unhide hb⟩

set_option maxHeartbeats 400000 in
theorem notGood_any (b : Nat) (x : NestT) (hx : x.Ok) (w : World) (hc : w.cell? ⟨b, 0, none⟩ = some (.func (.func 46) #[] #[])) :
    Calls Try.prog 78 #[.agg #[.string x.f0, .string x.f1], .pointer (some ⟨b, 0, none⟩)] w fun e w' => e = .returned (.bool (!gNe x)) ∧ Below w.heap.size w w' := by
  have q := hide (fun w => goodNest_any x.f0 x.f1 hx.o0 hx.o1 w)
  have HB := hide (bAl (Below.refl w.heap.size w) (.cells #[.string x.f0, .string x.f1] 42))
  have zb : b < w.heap.size := World.block_lt_of_cell? w ⟨b, 0, none⟩ hc
  unfold gNe
  generalize gNest x.f0 x.f1 = G at q
  go_enter Try.func78, Try.ntmps78
  go_wp2_with fail
  refine (unhide q _).mono ?_
  rintro e w1 ⟨rfl, hb⟩
  have B1 := hide (bTr (unhide HB) hb)
  clear hb HB q hc
  go_wp2_with fail
  go_ret
  exact ⟨rfl, unhide B1⟩

set_option maxHeartbeats 400000 in
theorem indexBad_any (b : Nat) (a : Option Addr) (len cap : Nat) (l : List NestT) (w : World) (hl : len ≤ 1000) (hs : SlNest w a len l) (hok : ∀ q ∈ l, NestT.Ok q) (hc : w.cell? ⟨b, 0, none⟩ = some (.func (.func 46) #[] #[])) :
    Calls Try.prog 97 #[.slice a len cap, .func (.func 78) #[] #[.pointer (some ⟨b, 0, none⟩)]] w fun e w' => (∃ v : Int, e = .returned (.int .i64 v) ∧ (0 ≤ v ↔ ¬ AllG l l.length)) ∧ Below w.heap.size w w' := by
  have HS := hide hs
  have zb : b < w.heap.size := World.block_lt_of_cell? w ⟨b, 0, none⟩ hc
  have HC := hide (fun (w' : World) (h : Below w.heap.size w w') => cellB (w' := w') h zb hc)
  clear hs hc
  go_enter Try.func97, Try.ntmps97
  go_wp2_with fail
  go_loopw [8] (fun i w' => ∃ k : Nat, k ≤ len ∧ i = .int .i64 k ∧ Hid (Below w.heap.size w w') ∧ Hid (AllG l k)) (fun i _ => len - (Go.RowKit.intOf i).toNat)
  case atStart => exact ⟨0, Nat.zero_le _, rfl, hide (Below.refl _ _), hide (fun i _ h => absurd h (Nat.not_lt_zero _))⟩
  case round =>
    obtain ⟨k, hk, rfl, hb, hA⟩ := hrel
    by_cases hlt : k < len
    · have hk' : k < l.length := by rw [← (unhide HS).1]; exact hlt
      obtain ⟨b1, off, rfl, hrow⟩ := ((unhide HS).keep (unhide hb)).at hlt
      have c0 := hrow.c0 k hk'
      have c1 := hrow.c1 k hk'
      have zk := hrow.z
      have q := hide (notGood_any b l[k] (hok _ (List.getElem_mem hk')) wr (unhide HC _ (unhide hb)))
      have eS := hide (fun g : gNe l[k] = true => (unhide hA).step hk' g)
      have eN : Hid (gNe l[k] = false → ¬ AllG l l.length) := hide (fun g h => by have := h k hk' hk'; rw [g] at this; cases this)
      clear hrow
      generalize l[k] = A at c0 c1 q eS eN
      cases hg : gNe A
      · rw [hg] at q
        have N := hide (unhide eN hg)
        clear hg eS eN
        go_wp2_with fail
        refine (unhide q).mono ?_
        rintro e w1 ⟨rfl, hb1⟩
        have B1 := hide (bTr (unhide hb) hb1)
        clear hb1 q c0 c1
        go_wp2_with fail
        go_ret
        exact ⟨⟨_, rfl, fun _ => unhide N, fun _ => by omega⟩, unhide B1⟩
      · rw [hg] at q
        have S := hide (unhide eS hg)
        clear hg eS eN
        go_wp2_with fail
        refine (unhide q).mono ?_
        rintro e w1 ⟨rfl, hb1⟩
        have B1 := hide (bTr (unhide hb) hb1)
        clear hb1 q c0 c1
        go_wp2_with fail
        exact ⟨⟨k + 1, by omega, by go_num, B1, S⟩, by simp [Go.RowKit.intOf]; omega⟩
    · have S : Hid (AllG l l.length) := hide (fun i h h1 => unhide hA i h (by have := (unhide HS).1; omega))
      go_wp2_with fail
      go_ret
      exact ⟨⟨_, rfl, fun h => absurd h (by decide), fun h => absurd (unhide S) h⟩, unhide hb⟩

set_option maxHeartbeats 400000 in
theorem goodListN_any (a : Option Addr) (len cap : Nat) (l : List NestT) (w : World) (hl : len ≤ maxLen) (hs : SlNest w a len l) (hok : ∀ q ∈ l, NestT.Ok q) :
    Calls Try.prog 45 #[.slice a len cap, .int .i64 200, .func (.func 46) #[] #[]] w fun e w' => RetB e (len ≤ 200 ∧ AllG l l.length) ∧ Below w.heap.size w w' := by
  unfold maxLen at hl
  have HS := hide hs
  clear hs
  by_cases h200 : (len : Int) ≤ 200
  · obtain ⟨W, hW⟩ : ∃ W, W = w.alloc (.cells #[.func (.func 46) #[] #[]] 56) := ⟨_, rfl⟩
    have R := show RowIs W w.heap.size #[.func (.func 46) #[] #[]] 56 by rw [hW]; exact RowIs.new _ _ _
    have B := hide (show Below w.heap.size w W by rw [hW]; exact bAl (Below.refl _ _) _)
    have HW := hide hW.symm
    clear hW
    have q := hide (fun hc => indexBad_any w.heap.size a len cap l W (by omega) ((unhide HS).keep (unhide B)) hok hc)
    have q2 : Hid (Calls Try.prog 77 #[.slice a len cap, .func (.func 78) #[] #[.pointer (some ⟨w.heap.size, 0, none⟩)]] W fun e w' => (∃ v : Bool, e = .returned (.bool v) ∧ (v = true ↔ ¬ AllG l l.length)) ∧ Below W.heap.size W w') := hide (by
      have q := hide (unhide q (R.at (o := 0) rfl))
      go_enter Try.func77, Try.ntmps77
      go_wp2_with fail
      refine (unhide q).mono ?_
      rintro e w1 ⟨⟨v, rfl, hv⟩, hb⟩
      have HV := hide hv
      clear hv
      go_wp2_with fail
      go_ret
      exact ⟨⟨decide (0 ≤ v), rfl, by rw [decide_eq_true_iff]; exact unhide HV⟩, hb⟩)
    have hst := @run_store Try.prog
    clear q R
    go_enter Try.func45, Try.ntmps45
    go_wp2_with fail
    rw [unhide HW]
    refine (unhide q2).mono ?_
    rintro e w1 ⟨⟨v, rfl, hv⟩, hb⟩
    have HV := hide hv
    have B1 := hide (bTr (unhide B) hb)
    clear hv hb q2 hst HW B
    go_wp2_with fail
    go_ret
    refine ⟨retB (b := !v) ⟨fun h => ?_, fun h => ?_⟩, unhide B1⟩
    · cases v
      · refine ⟨by omega, ?_⟩
        have := unhide HV
        exact Classical.byContradiction fun hn => by have := this.2 hn; cases this
      · cases h
    · cases v
      · rfl
      · exact absurd h.2 ((unhide HV).1 rfl)
  · have d : decide ((len : Int) ≤ 200) = false := by simpa using h200
    have B := hide (bAl (Below.refl w.heap.size w) (.cells #[.func (.func 46) #[] #[]] 56))
    have hst := @run_store Try.prog
    go_enter Try.func45, Try.ntmps45
    go_wp2_with fail
    go_ret
    exact ⟨retB (b := false) ⟨fun h => (by cases h), fun h => absurd h.1 (by omega)⟩, unhide B⟩

set_option maxHeartbeats 400000 in
theorem iGoodNests_any (a : Option Addr) (len cap : Nat) (l : List NestT) (w : World) (hl : len ≤ maxLen) (hs : SlNest w a len l) (hok : ∀ q ∈ l, NestT.Ok q) :
    Calls Try.prog 14 #[.slice a len cap] w fun e w' => RetB e (GoodL l) ∧ Below w.heap.size w w' := by
  have HS := hide hs
  have q := hide (goodListN_any a len cap l w hl hs hok)
  clear hs
  go_enter Try.func14, Try.ntmps14
  go_wp2_with fail
  refine (unhide q).mono ?_
  rintro e w1 ⟨⟨v, rfl, hv⟩, hb⟩
  have B1 := hide hb
  have HV := hide hv
  clear hb hv q
  cases v
  · go_wp2_with fail
    go_ret
    exact ⟨retB (b := false) ⟨fun h => (by cases h), fun h => (unhide HV).2 ⟨by rw [(unhide HS).1]; exact h.1, h.2.1⟩⟩, unhide B1⟩
  · have h2 := (unhide HV).1 rfl
    have q := hide (risingNs_any a len cap l w1 (by omega) ((unhide HS).keep (unhide B1)))
    have hA := hide h2.2
    have hL := hide h2.1
    clear h2 HV
    go_wp2_with fail
    refine (unhide q).mono ?_
    rintro e w2 ⟨⟨v, rfl, hv⟩, hb⟩
    have B2 := hide (bTr (unhide B1) hb)
    have HV := hide hv
    clear hb hv q B1
    go_wp2_with fail
    go_ret
    refine ⟨retB (b := v) ⟨fun h => ⟨by rw [← (unhide HS).1]; exact unhide hL, unhide hA, (unhide HV).1 h⟩, fun h => (unhide HV).2 h.2.2⟩, unhide B2⟩
end Go.Proofs.Ytakjnbdjjeccoaa
