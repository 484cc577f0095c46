/- Documents: spec.l20Take: the tree that it lays. -/
import Derived.Test.YtdhpfhpegaekpaaDoorELs
import Derived.Laws.AppendOwn
namespace Go.Proofs.YtdhpfhpegaekpaaDoor.V
set_option linter.unusedVariables false
open Go.RowKit Go.Maps

/-- What was in w from lo on is as it was. -/
structure KeptD (lo : Nat) (w w' : World) : Prop where
  size : w.heap.size ≤ w'.heap.size
  block : ∀ c, lo ≤ c → c < w.heap.size → w'.heap[c]? = w.heap[c]?
theorem KeptD.refl (lo : Nat) (w : World) : KeptD lo w w := ⟨Nat.le_refl _, fun _ _ _ => rfl⟩
theorem KeptD.below {lo B : Nat} {w a b : World} (h : KeptD lo w a) (hb : Below B a b) (hB : w.heap.size ≤ B) : KeptD lo w b :=
  ⟨Nat.le_trans h.size hb.size, fun c h1 h2 => (hb.block c (Nat.lt_of_lt_of_le h2 hB)).trans (h.block c h1 h2)⟩
theorem KeptD.alloc {lo : Nat} {w a : World} (h : KeptD lo w a) (o : Obj) : KeptD lo w (a.alloc o) := h.below (B := a.heap.size) (bAl (Below.refl _ _) _) h.size
theorem KeptD.grown {lo : Nat} {w X Y : World} {row : Option Nat} (h : KeptD lo w X) (hg : X.grownBy Y row) (hr : ∀ g, row = some g → g < lo ∨ w.heap.size ≤ g) : KeptD lo w Y :=
  ⟨Nat.le_trans h.size hg.size, fun c h1 h2 => (hg.block c (Nat.lt_of_lt_of_le h2 h.size) (fun e => by have := hr c e.symm; omega)).trans (h.block c h1 h2)⟩
theorem KeptD.set {lo : Nat} {w w' : World} (h : KeptD lo w w') (b o : Nat) (v : Value) (hb : b < lo) : KeptD lo w (w'.setCell ⟨b, o, none⟩ v) :=
  ⟨by simpa [World.setCell] using h.size, fun c h1 h2 => by rw [heap_setCell_other w' ⟨b, o, none⟩ c v (by rintro rfl; omega)]; exact h.block c h1 h2⟩
theorem KeptD.cell {lo : Nat} {w w' : World} (h : KeptD lo w w') {b o : Nat} (h1 : lo ≤ b) (h2 : b < w.heap.size) {v : Value} (hc : w.cell? ⟨b, o, none⟩ = some v) : w'.cell? ⟨b, o, none⟩ = some v := by
  simp only [World.cell?] at hc ⊢
  rw [h.block b h1 h2]; exact hc

def enc7 (x : ElemE) (k : Nat) (s : Value) : List Value := [.string x.t.f0, .string x.t.f1, .slice x.h2.a x.h2.len x.h2.cap, .slice x.h3.a x.h3.len x.h3.cap, .int .i64 x.t.f4, .int .i64 (k : Int), s]
abbrev agg7 (x : ElemE) (k : Nat) (s : Value) : Value := .agg #[.string x.t.f0, .string x.t.f1, .slice x.h2.a x.h2.len x.h2.cap, .slice x.h3.a x.h3.len x.h3.cap, .int .i64 x.t.f4, .int .i64 (k : Int), s]
abbrev row7 (x : ElemE) (k : Nat) (s : Value) : Array Value := #[.string x.t.f0, .string x.t.f1, .slice x.h2.a x.h2.len x.h2.cap, .slice x.h3.a x.h3.len x.h3.cap, .int .i64 x.t.f4, .int .i64 (k : Int), s]
abbrev zX : ElemE := ⟨⟨⟨#[]⟩, ⟨#[]⟩, [], [], 0⟩, ⟨none, 0, 0⟩, ⟨none, 0, 0⟩⟩
structure At7 (w : World) (b o : Nat) (x : ElemE) (k : Nat) (s : Value) : Prop where
  c0 : w.cell? ⟨b, o, none⟩ = some (.string x.t.f0)
  c1 : w.cell? ⟨b, o + 1, none⟩ = some (.string x.t.f1)
  c2 : w.cell? ⟨b, o + 2, none⟩ = some (.slice x.h2.a x.h2.len x.h2.cap)
  c3 : w.cell? ⟨b, o + 3, none⟩ = some (.slice x.h3.a x.h3.len x.h3.cap)
  c4 : w.cell? ⟨b, o + 4, none⟩ = some (.int .i64 x.t.f4)
  c5 : w.cell? ⟨b, o + 5, none⟩ = some (.int .i64 (k : Int))
  c6 : w.cell? ⟨b, o + 6, none⟩ = some s
theorem At7.keptD {lo : Nat} {w w' : World} {b o : Nat} {x : ElemE} {k : Nat} {s : Value} (h : At7 w b o x k s) (hk : KeptD lo w w') (h1 : lo ≤ b) (h2 : b < w.heap.size) : At7 w' b o x k s :=
  ⟨hk.cell h1 h2 h.c0, hk.cell h1 h2 h.c1, hk.cell h1 h2 h.c2, hk.cell h1 h2 h.c3, hk.cell h1 h2 h.c4, hk.cell h1 h2 h.c5, hk.cell h1 h2 h.c6⟩
theorem own_slD {w : World} {base e size n : Nat} {v : Value} {xs : List Value} (h : w.ownsRow base e size v n xs) : ∃ a cap, v = .slice a n cap := by
  rcases h.2 with ⟨e1, e0⟩ | ⟨g, c, _, e1, _⟩
  · exact ⟨none, 0, by rw [e1, e0]⟩
  · exact ⟨_, c, e1⟩
/-- A tree that lies in memory from lo on, no deeper than r: the value s is its kids. -/
def TrD : Nat → World → Nat → Value → DT → Prop
  | 0, _, _, _, _ => False
  | r + 1, w, lo, s, t => t.n.t.f4 = (t.kids.length : Int) ∧ t.kids.length ≤ 20 ∧ ∃ a cap, s = .slice a t.kids.length cap ∧ (t.kids = [] ∨ ∃ b, a = some ⟨b, 0, none⟩ ∧ lo ≤ b ∧ b < w.heap.size ∧ ∀ i (h : i < t.kids.length), ∃ s', At7 w b (i * 7) t.kids[i].n t.kids[i].at s' ∧ TrD r w lo s' t.kids[i])
theorem TrD.keptD {lo : Nat} {w w' : World} (hk : KeptD lo w w') : ∀ {r : Nat} {s : Value} {t : DT}, TrD r w lo s t → TrD r w' lo s t
  | 0, _, _, h => h.elim
  | r + 1, s, t, ⟨h1, h2, a, cap, h3, h4⟩ => ⟨h1, h2, a, cap, h3, h4.imp_right fun ⟨b, e, hl, hb, h5⟩ => ⟨b, e, hl, Nat.lt_of_lt_of_le hb hk.size, fun i hi => by
      obtain ⟨s', g1, g2⟩ := h5 i hi
      exact ⟨s', g1.keptD hk hl hb, TrD.keptD hk g2⟩⟩⟩
theorem TrD.low {lo lo' : Nat} {w : World} (hl : lo' ≤ lo) : ∀ {r : Nat} {s : Value} {t : DT}, TrD r w lo s t → TrD r w lo' s t
  | 0, _, _, h => h.elim
  | r + 1, s, t, ⟨h1, h2, a, cap, h3, h4⟩ => ⟨h1, h2, a, cap, h3, h4.imp_right fun ⟨b, e, hl', hb, h5⟩ => ⟨b, e, Nat.le_trans hl hl', hb, fun i hi => by
      obtain ⟨s', g1, g2⟩ := h5 i hi
      exact ⟨s', g1, TrD.low hl g2⟩⟩⟩
/-- Trees that were made, and the row u is none of what they lie in. -/
def MadeD (r base : Nat) (w' : World) (u : Value) (ps : List (DT × Value)) : Prop :=
  ∀ i (h : i < ps.length), ∃ (wi : World) (lo : Nat), TrD r wi lo ps[i].2 ps[i].1 ∧ KeptD lo wi w' ∧ (∀ g, u.ownBlock = some g → g < lo ∨ wi.heap.size ≤ g) ∧ base ≤ lo
theorem MadeD.next {r base bt k : Nat} {wr w3 w5 : World} {u u' x s : Value} {t : DT} {ps : List (DT × Value)} {o1 o2 : Obj} (fl : ps.length = k)
    (h : MadeD r base wr u ps) (b1 : Below wr.heap.size wr w3) (hv : TrD r w3 wr.heap.size s t) (hbL : base ≤ wr.heap.size) (hgr : ((w3.alloc o1).alloc o2).grownBy w5 u.ownBlock) (hug : ∀ g, u.ownBlock = some g → g < wr.heap.size)
    (hat : u'.ownBlock = u.ownBlock ∨ u'.ownBlock = some ((w3.alloc o1).alloc o2).heap.size) (hbt : bt < base) :
    MadeD r base (w5.setCell ⟨bt, 6, none⟩ x) u' (ps ++ [(t, s)]) := by
  have hat' : ∀ g', u'.ownBlock = some g' → u.ownBlock = some g' ∨ w3.heap.size ≤ g' := by
    intro g' hg'
    rcases hat with e | e
    · rw [e] at hg'; exact .inl hg'
    · rw [e] at hg'; simp at hg'; right; omega
  intro i hi
  rw [List.length_append, List.length_cons, List.length_nil] at hi
  by_cases e : i < k
  · obtain ⟨wi, lo, c, kp, hu, hb⟩ := h i (by omega)
    rw [List.getElem_append_left (by omega)]
    refine ⟨wi, lo, c, ((((kp.below b1 kp.size).alloc o1).alloc o2).grown hgr hu).set bt 6 x (by omega), fun g' hg' => ?_, hb⟩
    rcases hat' g' hg' with h1 | h1
    · exact hu g' h1
    · have := kp.size; have := b1.size; exact .inr (by omega)
  · obtain rfl : i = k := by omega
    have e1 : (ps ++ [(t, s)])[i]'(by simp; omega) = (t, s) := by
      rw [List.getElem_append_right (by omega)]; simp [fl]
    rw [e1]
    refine ⟨w3, wr.heap.size, hv, ((((KeptD.refl _ w3).alloc o1).alloc o2).grown hgr (fun g hg => .inl (hug g hg))).set bt 6 x (by omega), fun g' hg' => ?_, hbL⟩
    rcases hat' g' hg' with h1 | h1
    · exact .inl (hug g' h1)
    · exact .inr h1
def encs7 (ps : List (DT × Value)) : List Value := ps.flatMap fun p => enc7 p.1.n p.1.at p.2
theorem encs7_snoc (ps : List (DT × Value)) (t : DT) (s : Value) : encs7 (ps ++ [(t, s)]) = encs7 ps ++ enc7 t.n t.at s := by simp [encs7]
theorem encs7_len : ∀ (ps : List (DT × Value)), (encs7 ps).length = ps.length * 7
  | [] => rfl
  | p :: ps => by have := encs7_len ps; simp [encs7, enc7] at this ⊢; omega
theorem encs7_get : ∀ (l : List (DT × Value)) (i j : Nat) (h : i < l.length), j < 7 → (encs7 l)[i * 7 + j]? = (enc7 l[i].1.n l[i].1.at l[i].2)[j]?
  | [], i, j, h, _ => by simp at h
  | p :: l, 0, j, _, hj => by
    simp only [encs7, List.flatMap_cons, Nat.zero_mul, Nat.zero_add, List.getElem_cons_zero]
    rw [List.getElem?_append_left (by simp [enc7]; omega)]
  | p :: l, i + 1, j, h, hj => by
    simp only [encs7, List.flatMap_cons, List.getElem_cons_succ]
    rw [List.getElem?_append_right (by simp [enc7]; omega)]
    have := encs7_get l i j (by simpa using h) hj
    rw [show (i + 1) * 7 + j - (enc7 p.1.n p.1.at p.2).length = i * 7 + j by simp [enc7]; omega]
    exact this
theorem own7_cell {w : World} {base cap len e g : Nat} {ps : List (DT × Value)} (h : w.ownsRow base e 7 (.slice (some ⟨g, 0, none⟩) len cap) len (encs7 ps)) (i j : Nat) (hi : i < ps.length) (hj : j < 7) (v : Value) (hv : (enc7 ps[i].1.n ps[i].1.at ps[i].2)[j]? = some v) : w.cell? ⟨g, i * 7 + j, none⟩ = some v := by
  have h2 := h.cells (g := g) rfl (i * 7 + j) v (by rw [encs7_get _ _ _ hi hj]; exact hv)
  simp only [Addr.add] at h2
  split at h2
  · rename_i e0
    rw [e0]; exact h2
  · simpa using h2
theorem own7_at {w : World} {base cap len e g : Nat} {ps : List (DT × Value)} (h : w.ownsRow base e 7 (.slice (some ⟨g, 0, none⟩) len cap) len (encs7 ps)) (i : Nat) (hi : i < ps.length) : At7 w g (i * 7) ps[i].1.n ps[i].1.at ps[i].2 :=
  ⟨own7_cell h i 0 hi (by omega) _ rfl, own7_cell h i 1 hi (by omega) _ rfl, own7_cell h i 2 hi (by omega) _ rfl, own7_cell h i 3 hi (by omega) _ rfl, own7_cell h i 4 hi (by omega) _ rfl, own7_cell h i 5 hi (by omega) _ rfl, own7_cell h i 6 hi (by omega) _ rfl⟩
/-- What was made and lies in one row is a tree. -/
theorem MadeD.tree {r base e : Nat} {w : World} {v : Value} {ps : List (DT × Value)} {x : ElemE} {k : Nat} (hm : MadeD r base w v ps) (ho : w.ownsRow base e 7 v ps.length (encs7 ps)) (h6 : x.t.f4 = (ps.length : Int)) (h10 : ps.length ≤ 20) : TrD (r + 1) w base v (.node x k (ps.map (·.1))) := by
  obtain ⟨a, cap, ev⟩ := own_slD ho
  subst ev
  refine ⟨by simpa [DT.n, DT.kids] using h6, by simpa [DT.kids] using h10, a, cap, by simp [DT.kids], ?_⟩
  rcases ho.2 with ⟨e1, hn⟩ | ⟨g, c, cur, hv, hg, hc, _⟩
  · left; simp at e1; simp [DT.kids]; exact e1.2.1
  · right
    injection hv with hv
    subst hv
    refine ⟨g, rfl, hg, (Array.getElem?_eq_some_iff.1 hc).1, fun i hi => ?_⟩
    have hi' : i < ps.length := by simpa [DT.kids] using hi
    obtain ⟨wi, lo, ht, hk, _, hb⟩ := hm i hi'
    refine ⟨ps[i].2, ?_, ?_⟩
    · have := own7_at ho i hi'
      simpa [DT.kids] using this
    · have := (ht.keptD hk).low hb
      simpa [DT.kids] using this
end Go.Proofs.YtdhpfhpegaekpaaDoor.V
