/- GBase, GJoi, one behind the other. -/
import Derived.Test.YtfbncneeimikcaaGreatJ11
import Derived.WalkSmall
import Derived.OwnWalk
import Derived.Maps.AppendAt
/- Rows that are owned, kept, appended to; blocks that grow. -/
namespace Go.Proofs.YtfbncneeimikcaaGreat
open Go.RowKit

theorem cell_two_at (W : World) (n : Nat) (hn : n = W.heap.size) (a b : Value) (t : TypeId) : ∀ j u, [a, b][j]? = some u → (W.alloc (.cells #[a, b] t)).cell? ((⟨n, 0, none⟩ : Addr).add j) = some u := by
  subst hn; exact cell_two_new W a b t
theorem cell_one_at (W : World) (n : Nat) (hn : n = W.heap.size) (a : Value) (t : TypeId) : ∀ j u, [a][j]? = some u → (W.alloc (.cells #[a] t)).cell? ((⟨n, 0, none⟩ : Addr).add j) = some u := by
  subst hn; exact cell_one_new W a t
theorem own_keepB {B : Nat} {w w' : World} {base n e size : Nat} {v : Value} {xs : List Value} (h : w.ownsRow base e size v n xs) (hb : Below B w w') (hlt : ∀ g, v.ownBlock = some g → g < B) : w'.ownsRow base e size v n xs := by
  refine ⟨h.1, h.2.imp_right ?_⟩
  rintro ⟨g, cap, cur, e', h1, hh, r⟩
  have ho : v.ownBlock = some g := by rw [e']; rfl
  refine ⟨g, cap, cur, e', h1, ?_, r⟩
  rw [hb.block g (hlt g ho)]; exact hh
theorem own_keep {w w' : World} {base n e size : Nat} {v : Value} {xs : List Value} (h : w.ownsRow base e size v n xs) (hb : Below w.heap.size w w') : w'.ownsRow base e size v n xs :=
  own_keepB h hb fun g e => (h.lt g e).2
theorem below_append {w x y : World} {v : Value} {n : Nat} {xs : List Value} {base e size : Nat} {o : Obj} (hB : Below w.heap.size w x) (hz : w.heap.size ≤ base) (ho : x.ownsRow base e size v n xs) (hg : (x.alloc o).grownBy y v.ownBlock) : Below w.heap.size w y :=
  (hB.alloc hB.size o).grown hg (by have := hB.size; simp; omega) (fun k hk => by have := (ho.lt k hk).1; omega)
theorem bSet {w w' : World} (h : Below w.heap.size w w') (b o : Nat) (hb : w.heap.size ≤ b) (v : Value) : Below w.heap.size w (w'.setCell ⟨b, o, none⟩ v) := h.setCell hb v
theorem own_ne {v u : Value} {A B : Nat} (h1 : ∀ g, v.ownBlock = some g → g < A) (h2 : ∀ g, u.ownBlock = some g → B ≤ g) (h : A ≤ B) : v.ownBlock = none ∨ v.ownBlock ≠ u.ownBlock := by
  cases hv : v.ownBlock with
  | none => exact .inl rfl
  | some g => exact .inr fun e => by have := h1 g hv; have := h2 g e.symm; omega
theorem row_grown {w w' : World} {b : Nat} {C : Array Value} {T : TypeId} {row : Option Nat} (h : RowIs w b C T) (hg : w.grownBy w' row) (hne : some b ≠ row) : RowIs w' b C T := by
  have hl := h.lt
  unfold RowIs at *; rw [hg.block b hl hne]; exact h
def DJ (v u : Value) : Prop := ∀ g h, v.ownBlock = some g → u.ownBlock = some h → g ≠ h
theorem DJ.of {v u : Value} {B : Nat} (h1 : ∀ g, v.ownBlock = some g → g < B) (h2 : ∀ g, u.ownBlock = some g → B ≤ g) : DJ v u := fun g h e1 e2 e => by
  have := h1 g e1; have := h2 h e2; omega
theorem DJ.ne {v u : Value} (h : DJ v u) : u.ownBlock = none ∨ u.ownBlock ≠ v.ownBlock := by
  cases hu : u.ownBlock with
  | none => exact .inl rfl
  | some g => exact .inr fun e => h g g e.symm hu rfl
theorem DJ.ne' {v u : Value} (h : DJ v u) : v.ownBlock = none ∨ v.ownBlock ≠ u.ownBlock := by
  cases hv : v.ownBlock with
  | none => exact .inl rfl
  | some g => exact .inr fun e => h g g hv e.symm rfl
theorem dj_nil (v : Value) : DJ (.slice none 0 0) v := fun g _ h _ => by simp [Value.ownBlock] at h
/-- What is owned by a slice of strings. -/
theorem own_strs {w : World} {base : Nat} {v : Value} {l : List ByteArray} (h : w.ownsRow base 9 1 v l.length (l.map Value.string)) : ∃ a cap, v = .slice a l.length cap ∧ SlS w a l.length l := by
  rcases h.2 with ⟨rfl, e⟩ | ⟨g, cap, cur, rfl, _, hh, _, _, hsz, htk⟩
  · have : l = [] := List.length_eq_zero_iff.1 e
    subst this
    exact ⟨none, 0, rfl, rfl, .inl rfl⟩
  · have hr : RowIs w g cur 9 := hh
    refine ⟨_, _, rfl, rfl, .inr ⟨g, 0, rfl, hr.lt, fun i hi => ?_⟩⟩
    rw [Nat.zero_add, hr.cell, ← Array.getElem?_toList]
    have : (cur.toList.take (l.length * 1))[i]? = some (.string l[i]) := by rw [htk]; simp [hi]
    rw [List.getElem?_take] at this
    split at this
    · exact this
    · cases this
theorem info_str : (Tryz.prog.info? 9).map (fun i => (i.zero, i.size, i.bytes)) = some (some (.string ByteArray.empty), 1, 16) := by kernel_rfl
end Go.Proofs.YtfbncneeimikcaaGreat
/- A graph of names in memory: a map of maps; (impl.set[string]).add, (impl.graph[string]).join. -/
namespace Go.Proofs.YtfbncneeimikcaaGreat
open Go.RowKit Go.Maps

abbrev Bs := ByteArray
open Classical in
/-- What the map of a's kids holds. -/
noncomputable def setF (es : List (Bs × Bs)) (a : Bs) : Bs → Option Value := fun x => if (a, x) ∈ es then some (.agg #[]) else none
theorem setF_cons (es : List (Bs × Bs)) (a x : Bs) : setF ((a, x) :: es) a = updK (setF es a) x (.agg #[]) := by
  funext y
  unfold setF updK
  by_cases h : y = x
  · subst h; simp
  · have : ((a, y) ∈ (a, x) :: es) ↔ (a, y) ∈ es := by simp [h]
    rw [if_neg h]
    by_cases hy : (a, y) ∈ es
    · simp only []; rw [if_pos hy, if_pos (this.2 hy)]
    · simp only []; rw [if_neg hy, if_neg (fun q => hy (this.1 q))]
theorem setF_other (es : List (Bs × Bs)) {a a' : Bs} (x : Bs) (h : a' ≠ a) : setF ((a, x) :: es) a' = setF es a' := by
  funext y
  unfold setF
  have : ((a', y) ∈ (a, x) :: es) ↔ (a', y) ∈ es := by simp [h]
  by_cases hy : (a', y) ∈ es
  · rw [if_pos hy, if_pos (this.2 hy)]
  · rw [if_neg hy, if_neg (fun q => hy (this.1 q))]
theorem setF_none {es : List (Bs × Bs)} {a : Bs} (h : ¬ ∃ x, (a, x) ∈ es) : setF es a = fun _ => none := by
  funext y
  unfold setF
  rw [if_neg (fun hy => h ⟨y, hy⟩)]

/-- What the map of a graph holds. -/
def topM (tab : Bs → Option Nat) : Bs → Option Value := fun a => (tab a).map fun b => Value.map (some b)
/-- All old blocks but maps at lo or above are as they were. -/
structure KeptJ (lo : Nat) (w w' : World) : Prop where
  os : w'.os = w.os
  tape : w'.tape = w.tape
  output : w'.output = w.output
  size : w.heap.size ≤ w'.heap.size
  block : ∀ k, k < w.heap.size → (k < lo ∨ ∀ es c, w.heap[k]? ≠ some (.map es c)) → w'.heap[k]? = w.heap[k]?
theorem KeptJ.refl (lo : Nat) (w : World) : KeptJ lo w w := ⟨rfl, rfl, rfl, Nat.le_refl _, fun _ _ _ => rfl⟩
theorem KeptJ.trans {lo : Nat} {a b c : World} (h : KeptJ lo a b) (k : KeptJ lo b c) : KeptJ lo a c :=
  ⟨k.os.trans h.os, k.tape.trans h.tape, k.output.trans h.output, Nat.le_trans h.size k.size, fun i hi hp => by
    have e := h.block i hi hp
    refine (k.block i (Nat.lt_of_lt_of_le hi h.size) ?_).trans e
    rw [e]; exact hp⟩
theorem KeptJ.alloc (lo : Nat) (w : World) (o : Obj) : KeptJ lo w (w.alloc o) := ⟨rfl, rfl, rfl, by simp, fun k hk _ => Below.heap_alloc _ _ _ hk⟩
theorem KeptJ.grown {lo b : Nat} {w w' : World} {α : Type} {enc : α → Value} {P : Program} {k : TypeId} {n : Nat} {m : α → Option Value} (hm : KM P k enc w b n m) (hb : lo ≤ b) (hg : w.grownBy w' (some b)) : KeptJ lo w w' :=
  ⟨hg.os, hg.tape, hg.output, hg.size, fun i hi hp => hg.block i hi (fun e => by
    cases e
    obtain ⟨D, ⟨es, c, h1, _⟩, _⟩ := hm
    rcases hp with h | h
    · omega
    · exact h es c h1)⟩
theorem KeptJ.below {lo : Nat} {w w' : World} (h : KeptJ lo w w') (hlo : lo ≤ w.heap.size) : Below lo w w' :=
  ⟨h.os, h.tape, h.output, h.size, fun k hk => h.block k (by omega) (.inl hk)⟩
theorem KeptJ.row {lo b : Nat} {w w' : World} {C : Array Value} {T : TypeId} (h : KeptJ lo w w') (hr : RowIs w b C T) : RowIs w' b C T := by
  have hl := hr.lt
  unfold RowIs at *
  rw [h.block b hl (.inr fun es c e => by rw [hr] at e; cases e)]; exact hr
theorem KeptJ.kr {lo b r n cnt : Nat} {w w' : World} {α : Type} {enc : α → Value} {P : Program} {k : TypeId} {m : α → Option Value} {done : α → Prop} (h : KeptJ lo w w') (hr : KR P k enc w b r n m done cnt) (hb : b < lo) : KR P k enc w' b r n m done cnt := by
  have l1 := hr.lt
  have l2 := hr.owns.lt
  refine hr.block (h.block b l2 (.inl hb)) (h.block r l1 (.inr fun es c e => ?_))
  obtain ⟨D, left, ⟨_, _, _, _, _, _, _, _, _, x5, _⟩, _⟩ := hr
  rw [x5] at e; cases e

/-- Block bg is a graph: its edges are es; tab tells where the kids' maps are. -/
structure GM (w : World) (lo bg n : Nat) (es : List (Bs × Bs)) (tab : Bs → Option Nat) : Prop where
  base : lo ≤ bg
  top : KM Tryz.prog 9 Value.string w bg n (topM tab)
  kid : ∀ a b, tab a = some b → KM Tryz.prog 9 Value.string w b n (setF es a)
  inj : ∀ a a' b, tab a = some b → tab a' = some b → a = a'
  ge : ∀ a b, tab a = some b → lo ≤ b ∧ b ≠ bg
  has : ∀ a, (tab a).isSome = true ↔ ∃ x, (a, x) ∈ es
  ok : ∀ a x, (a, x) ∈ es → a.size ≤ maxLen ∧ x.size ≤ maxLen
theorem GM.keepB {w w' : World} {lo bg n B : Nat} {es : List (Bs × Bs)} {tab : Bs → Option Nat} (h : GM w lo bg n es tab) (hb : Below B w w') (hB : w.heap.size ≤ B) : GM w' lo bg n es tab :=
  ⟨h.base, h.top.keepB hb (Nat.lt_of_lt_of_le h.top.lt hB), fun a b e => (h.kid a b e).keepB hb (Nat.lt_of_lt_of_le (h.kid a b e).lt hB), h.inj, h.ge, h.has, h.ok⟩
theorem GM.grown {w w' : World} {lo bg n : Nat} {es : List (Bs × Bs)} {tab : Bs → Option Nat} {row : Option Nat} (h : GM w lo bg n es tab) (hg : w.grownBy w' row) (hr : ∀ r, row = some r → ∀ e c, w.heap[r]? ≠ some (.map e c)) : GM w' lo bg n es tab := by
  have aux : ∀ (b : Nat) (m : Bs → Option Value), KM Tryz.prog 9 Value.string w b n m → KM Tryz.prog 9 Value.string w' b n m := fun b m hm => hm.kept hg (fun e => by
    obtain ⟨D, ⟨es, c, h1, _⟩, _⟩ := hm
    exact hr b e.symm es c h1)
  exact ⟨h.base, aux _ _ h.top, fun a b e => aux _ _ (h.kid a b e), h.inj, h.ge, h.has, h.ok⟩
theorem GM.made (w : World) (lo : Nat) (h : lo ≤ w.heap.size) : GM (w.alloc (.map #[] 0)) lo w.heap.size 0 [] (fun _ => none) :=
  ⟨h, KM.made _ _ _ _, (fun a b e => by cases e), (fun a a' b e => by cases e), (fun a b e => by cases e), (fun a => by simp), (fun a x h => by simp at h)⟩

set_option maxHeartbeats 400000 in
theorem add_any (b n : Nat) (m : Bs → Option Value) (x : Bs) (w : World) (hm : KM Tryz.prog 9 Value.string w b n m) (hn : n < maxLen) (hx : x.size ≤ maxLen) :
    Calls Tryz.prog 96 #[.map (some b), .string x] w fun e w' => e = .returned (.tuple #[]) ∧ KM Tryz.prog 9 Value.string w' b (n + 1) (updK m x (.agg #[])) ∧ w.grownBy w' (some b) ∧ w'.heap.size = w.heap.size := by
  have HM := hide hm
  clear hm
  go_enter Tryz.func96, Tryz.ntmps96
  go_wp2_with (at_mapUpdate; refine wpList_put_km _ kStr rfl _ _ _ _ rfl _ Tryz.underlying78 b n m rfl (unhide HM) hn x _ rfl rfl hx ?_; intro w1 h1 h2 h3)
  go_end0
  exact ⟨rfl, h1, h2, h3⟩

theorem zeroSet (w : World) : (zeroValue 78).run Tryz.prog w = .ok (.map none) w := by kernel_rfl
theorem zeroInt (w : World) : (zeroValue 3).run Tryz.prog w = .ok (.int .i64 0) w := by kernel_rfl
theorem eqMapS (b : Nat) (w : World) : (binOp BinOp.eql 78 (.map (some b)) (.map none)).run Tryz.prog w = .ok (.bool false) w := by kernel_rfl
theorem eqMapN (w : World) : (binOp BinOp.eql 78 (.map none) (.map none)).run Tryz.prog w = .ok (.bool true) w := by kernel_rfl
theorem updTab {tab : Bs → Option Nat} (f : Bs) (b : Nat) : topM (fun y => if y = f then some b else tab y) = updK (topM tab) f (Value.map (some b)) := by
  funext a
  unfold updK topM
  by_cases h : a = f
  · simp [h]
  · simp [h]

set_option maxRecDepth 100000 in
set_option maxHeartbeats 1000000 in
theorem join_any (lo bg n : Nat) (es : List (Bs × Bs)) (tab : Bs → Option Nat) (f t : Bs) (w : World) (hG : GM w lo bg n es tab) (hlo : lo ≤ w.heap.size) (hn : n < 1000000) (hf : f.size ≤ maxLen) (ht : t.size ≤ maxLen) :
    Calls Tryz.prog 108 #[.map (some bg), .string f, .string t] w fun e w' => e = .returned (.tuple #[]) ∧ (∃ tab', GM w' lo bg (n + 1) ((f, t) :: es) tab') ∧ KeptJ lo w w' := by
  have hnm : n < maxLen := by unfold maxLen; omega
  cases hT : tab f with
  | some b =>
    have HG := hide hG
    have HT := hide hT
    have e1 := hide (show ((topM tab) f).getD (.map none) = Value.map (some b) by simp [topM, hT])
    have q := hide (fun w hm => add_any b n (setF es f) t w hm hnm ht)
    clear hG hT
    have eqS := eqMapS
    have eqN := eqMapN
    go_enter Tryz.func108, Tryz.ntmps108
    go_wp2_with (at_lookup; refine wpList_get_km _ kStr rfl _ _ _ rfl _ Tryz.underlying157 (zeroSet _) bg n _ rfl (unhide HG).top f rfl hf _ (unhide e1) ?_)
    refine (unhide q _ ((unhide HG).kid _ _ (unhide HT))).mono ?_
    rintro e w1 ⟨rfl, h1, h2, h3⟩
    have G := unhide HG
    have T := unhide HT
    have ne : some bg ≠ some b := fun e => by cases e; exact (G.ge f _ T).2 rfl
    have FIN : (∃ tab', GM w1 lo bg (n + 1) ((f, t) :: es) tab') ∧ KeptJ lo w w1 := by
      refine ⟨⟨tab, G.base, (G.top.kept h2 ne).more (by omega), fun a b' e => ?_, G.inj, G.ge, fun a => ?_, fun a x h => ?_⟩, KeptJ.grown (G.kid _ _ T) (G.ge _ _ T).1 h2⟩
      · by_cases ha : a = f
        · subst ha
          obtain rfl : b' = b := by rw [T] at e; exact (Option.some.inj e).symm
          rw [setF_cons]; exact h1
        · rw [setF_other _ _ ha]
          exact ((G.kid a b' e).kept h2 (fun e2 => by cases e2; exact ha (G.inj _ _ _ e T))).more (by omega)
      · rw [G.has a]
        constructor
        · rintro ⟨x, hx⟩; exact ⟨x, List.mem_cons_of_mem _ hx⟩
        · rintro ⟨x, hx⟩
          rcases List.mem_cons.1 hx with e | e
          · cases e; exact (G.has _).1 (by rw [T]; rfl)
          · exact ⟨x, e⟩
      · rcases List.mem_cons.1 h with e | e
        · cases e; exact ⟨hf, ht⟩
        · exact G.ok a x e
    have FH := hide FIN
    clear FIN G T ne h1 h2 h3 HG HT q
    go_wp2_with fail
    go_end0
    exact ⟨rfl, unhide FH⟩
  | none =>
    have HG := hide hG
    have HT := hide hT
    have e1 := hide (show ((topM tab) f).getD (.map none) = Value.map none by simp [topM, hT])
    have e2 := hide (show (updK (topM tab) f (Value.map (some w.heap.size)) f).getD (.map none) = Value.map (some w.heap.size) by simp [updK])
    have q := hide (fun w0 hm => add_any w.heap.size 0 (fun _ => none) t w0 hm (by unfold maxLen; omega) ht)
    have GT := hide (hG.top.kept (World.grownBy_alloc w (.map #[] 0) none) (by simp))
    have KI := hide (KM.made Tryz.prog 9 Value.string w)
    have hlt := hide hG.top.lt
    have hmm := @run_makeMap Tryz.prog
    clear hG hT
    have eqS := eqMapS
    have eqN := eqMapN
    go_enter Tryz.func108, Tryz.ntmps108
    go_wp2_with (first
      | (at_lookup; refine wpList_get_km _ kStr rfl _ _ _ rfl _ Tryz.underlying157 (zeroSet _) bg n _ rfl (unhide HG).top f rfl hf _ (unhide e1) ?_)
      | (at_mapUpdate; refine wpList_put_km _ kStr rfl _ _ _ _ rfl _ Tryz.underlying157 bg n _ rfl (unhide GT) hnm f _ rfl rfl hf ?_; intro w1 h1 h2 h3; have H1 := hide h1; have H2 := hide h2; have H3 := hide h3; clear h1 h2 h3)
      | (at_lookup; refine wpList_get_km _ kStr rfl _ _ _ rfl _ Tryz.underlying157 (zeroSet _) bg (n + 1) _ rfl (unhide H1) f rfl hf _ (unhide e2) ?_))
    have nb : some w.heap.size ≠ some bg := fun e => by cases e; exact Nat.lt_irrefl _ (unhide hlt)
    refine (unhide q _ ((unhide KI).kept (unhide H2) nb)).mono ?_
    rintro e w2 ⟨rfl, h1, h2, h3⟩
    have G := unhide HG
    have T := unhide HT
    have FIN : (∃ tab', GM w2 lo bg (n + 1) ((f, t) :: es) tab') ∧ KeptJ lo w w2 := by
      have hno : ¬ ∃ x, (f, x) ∈ es := fun h => by have := (G.has f).2 h; rw [T] at this; cases this
      refine ⟨⟨fun y => if y = f then some w.heap.size else tab y, G.base, ?_, fun a b' e => ?_, fun a a' b' e e' => ?_, fun a b' e => ?_, fun a => ?_, fun a x h => ?_⟩, ?_⟩
      · rw [updTab]
        exact (unhide H1).kept h2 (fun e => nb e.symm)
      · by_cases ha : a = f
        · subst ha
          simp at e
          subst e
          rw [setF_cons, setF_none hno]
          exact h1.more (by omega)
        · simp [ha] at e
          rw [setF_other _ _ ha]
          have hl := (G.kid a b' e).lt
          refine ((((G.kid a b' e).kept (World.grownBy_alloc w (.map #[] 0) none) (by simp)).kept (unhide H2) (fun e2 => ?_)).kept h2 (fun e2 => ?_)).more (by omega)
          · cases e2; exact (G.ge a _ e).2 rfl
          · cases e2; exact Nat.lt_irrefl _ hl
      · by_cases ha : a = f <;> by_cases ha' : a' = f
        · rw [ha, ha']
        · simp [ha, ha'] at e e'
          subst e
          exact absurd (G.kid a' _ e').lt (Nat.lt_irrefl _)
        · simp [ha, ha'] at e e'
          subst e'
          exact absurd (G.kid a _ e).lt (Nat.lt_irrefl _)
        · simp [ha, ha'] at e e'
          exact G.inj _ _ _ e e'
      · by_cases ha : a = f
        · simp [ha] at e
          subst e
          exact ⟨hlo, fun e => nb (by rw [e])⟩
        · simp [ha] at e
          exact G.ge a b' e
      · by_cases ha : a = f
        · subst ha; simp
        · simp [ha]
          rw [G.has a]
      · rcases List.mem_cons.1 h with e | e
        · cases e; exact ⟨hf, ht⟩
        · exact G.ok a x e
      · exact ((KeptJ.alloc lo w _).trans (KeptJ.grown (unhide GT) G.base (unhide H2))).trans (KeptJ.grown ((unhide KI).kept (unhide H2) nb) hlo h2)
    have FH := hide FIN
    clear FIN G T nb h1 h2 h3 HG HT q H1 H2 H3
    go_wp2_with fail
    go_end0
    exact ⟨rfl, unhide FH⟩
end Go.Proofs.YtfbncneeimikcaaGreat
