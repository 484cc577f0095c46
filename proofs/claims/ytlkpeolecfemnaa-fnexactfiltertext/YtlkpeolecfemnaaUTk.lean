/- spec.l3Take: the tree that it lays. -/
import Derived.Test.YtlkpeolecfemnaaUGrf
import Derived.Test.YtlkpeolecfemnaaUBs
namespace Go.Proofs.Ytlkpeolecfemnaa.V
open Go.RowKit Go.Maps

/-- What was in w from lo on is as it was. -/
structure KeptY (lo : Nat) (w w' : World) : Prop where
  size : w.heap.size ≤ w'.heap.size
  block : ∀ c, lo ≤ c → c < w.heap.size → w'.heap[c]? = w.heap[c]?
theorem KeptY.refl (lo : Nat) (w : World) : KeptY lo w w := ⟨Nat.le_refl _, fun _ _ _ => rfl⟩
theorem KeptY.below {lo B : Nat} {w a b : World} (h : KeptY lo w a) (hb : Below B a b) (hB : w.heap.size ≤ B) : KeptY lo w b :=
  ⟨Nat.le_trans h.size hb.size, fun c h1 h2 => (hb.block c (Nat.lt_of_lt_of_le h2 hB)).trans (h.block c h1 h2)⟩
theorem KeptY.alloc {lo : Nat} {w a : World} (h : KeptY lo w a) (o : Obj) : KeptY lo w (a.alloc o) := h.below (B := a.heap.size) (bAl (Below.refl _ _) _) h.size
theorem KeptY.grown {lo : Nat} {w X Y : World} {row : Option Nat} (h : KeptY lo w X) (hg : X.grownBy Y row) (hr : ∀ g, row = some g → g < lo ∨ w.heap.size ≤ g) : KeptY lo w Y :=
  ⟨Nat.le_trans h.size hg.size, fun c h1 h2 => (hg.block c (Nat.lt_of_lt_of_le h2 h.size) (fun e => by have := hr c e.symm; omega)).trans (h.block c h1 h2)⟩
theorem KeptY.set {lo : Nat} {w w' : World} (h : KeptY lo w w') (b o : Nat) (v : Value) (hb : b < lo) : KeptY lo w (w'.setCell ⟨b, o, none⟩ v) :=
  ⟨by simpa [World.setCell] using h.size, fun c h1 h2 => by rw [heap_setCell_other w' ⟨b, o, none⟩ c v (by rintro rfl; omega)]; exact h.block c h1 h2⟩
theorem KeptY.cell {lo : Nat} {w w' : World} (h : KeptY lo w w') {b o : Nat} (h1 : lo ≤ b) (h2 : b < w.heap.size) {v : Value} (hc : w.cell? ⟨b, o, none⟩ = some v) : w'.cell? ⟨b, o, none⟩ = some v := by
  simp only [World.cell?] at hc ⊢
  rw [h.block b h1 h2]; exact hc

def enc8 (x : FilterNodeT) (s : Value) : List Value := [.int .i64 x.f0, .string x.f1, .string x.f2, .int .i64 x.f3, s]
abbrev agg8 (x : FilterNodeT) (s : Value) : Value := .agg #[.int .i64 x.f0, .string x.f1, .string x.f2, .int .i64 x.f3, s]
abbrev row8 (x : FilterNodeT) (s : Value) : Array Value := #[.int .i64 x.f0, .string x.f1, .string x.f2, .int .i64 x.f3, s]
abbrev zX : FilterNodeT := ⟨0, ⟨#[]⟩, ⟨#[]⟩, 0⟩
structure At8 (w : World) (b o : Nat) (x : FilterNodeT) (s : Value) : Prop where
  c0 : w.cell? ⟨b, o, none⟩ = some (.int .i64 x.f0)
  c1 : w.cell? ⟨b, o + 1, none⟩ = some (.string x.f1)
  c2 : w.cell? ⟨b, o + 2, none⟩ = some (.string x.f2)
  c3 : w.cell? ⟨b, o + 3, none⟩ = some (.int .i64 x.f3)
  c4 : w.cell? ⟨b, o + 4, none⟩ = some s
theorem At8.keptY {lo : Nat} {w w' : World} {b o : Nat} {x : FilterNodeT} {s : Value} (h : At8 w b o x s) (hk : KeptY lo w w') (h1 : lo ≤ b) (h2 : b < w.heap.size) : At8 w' b o x s :=
  ⟨hk.cell h1 h2 h.c0, hk.cell h1 h2 h.c1, hk.cell h1 h2 h.c2, hk.cell h1 h2 h.c3, hk.cell h1 h2 h.c4⟩
/-- A tree that lies in memory from lo on, no deeper than r: the value s is its kids. -/
def TrAt : Nat → World → Nat → Value → FT → Prop
  | 0, _, _, _, _ => False
  | r + 1, w, lo, s, t => t.n.f3 = (t.kids.length : Int) ∧ t.kids.length ≤ 20 ∧ ∃ a cap, s = .slice a t.kids.length cap ∧ (t.kids = [] ∨ ∃ b, a = some ⟨b, 0, none⟩ ∧ lo ≤ b ∧ b < w.heap.size ∧ ∀ i (h : i < t.kids.length), ∃ s', At8 w b (i * 5) t.kids[i].n s' ∧ TrAt r w lo s' t.kids[i])
theorem TrAt.keptY {lo : Nat} {w w' : World} (hk : KeptY lo w w') : ∀ {r : Nat} {s : Value} {t : FT}, TrAt r w lo s t → TrAt r w' lo s t
  | 0, _, _, h => h.elim
  | r + 1, s, t, ⟨h1, h2, a, cap, h3, h4⟩ => ⟨h1, h2, a, cap, h3, h4.imp_right fun ⟨b, e, hl, hb, h5⟩ => ⟨b, e, hl, Nat.lt_of_lt_of_le hb hk.size, fun i hi => by
      obtain ⟨s', g1, g2⟩ := h5 i hi
      exact ⟨s', g1.keptY hk hl hb, TrAt.keptY hk g2⟩⟩⟩
theorem TrAt.low {lo lo' : Nat} {w : World} (hl : lo' ≤ lo) : ∀ {r : Nat} {s : Value} {t : FT}, TrAt r w lo s t → TrAt r w lo' s t
  | 0, _, _, h => h.elim
  | r + 1, s, t, ⟨h1, h2, a, cap, h3, h4⟩ => ⟨h1, h2, a, cap, h3, h4.imp_right fun ⟨b, e, hl', hb, h5⟩ => ⟨b, e, Nat.le_trans hl hl', hb, fun i hi => by
      obtain ⟨s', g1, g2⟩ := h5 i hi
      exact ⟨s', g1, TrAt.low hl g2⟩⟩⟩
/-- Trees that were made, and the row u is none of what they lie in. -/
def MadeY (r base : Nat) (w' : World) (u : Value) (ps : List (FT × Value)) : Prop :=
  ∀ i (h : i < ps.length), ∃ (wi : World) (lo : Nat), TrAt r wi lo ps[i].2 ps[i].1 ∧ KeptY lo wi w' ∧ (∀ g, u.ownBlock = some g → g < lo ∨ wi.heap.size ≤ g) ∧ base ≤ lo
theorem MadeY.next {r base bt k : Nat} {wr w3 w5 : World} {u u' x s : Value} {t : FT} {ps : List (FT × Value)} {o1 o2 : Obj} (fl : ps.length = k)
    (h : MadeY r base wr u ps) (b1 : Below wr.heap.size wr w3) (hv : TrAt r w3 wr.heap.size s t) (hbL : base ≤ wr.heap.size) (hgr : ((w3.alloc o1).alloc o2).grownBy w5 u.ownBlock) (hug : ∀ g, u.ownBlock = some g → g < wr.heap.size)
    (hat : u'.ownBlock = u.ownBlock ∨ u'.ownBlock = some ((w3.alloc o1).alloc o2).heap.size) (hbt : bt < base) :
    MadeY r base (w5.setCell ⟨bt, 4, none⟩ x) u' (ps ++ [(t, s)]) := by
  have hat' : ∀ g', u'.ownBlock = some g' → u.ownBlock = some g' ∨ w3.heap.size ≤ g' := by
    intro g' hg'
    rcases hat with e | e
    · rw [e] at hg'; exact .inl hg'
    · rw [e] at hg'; simp at hg'; right; omega
  intro i hi
  rw [List.length_append, List.length_cons, List.length_nil] at hi
  by_cases e : i < k
  · obtain ⟨wi, lo, c, kp, hu, hb⟩ := h i (by omega)
    rw [List.getElem_append_left (by omega)]
    refine ⟨wi, lo, c, ((((kp.below b1 kp.size).alloc o1).alloc o2).grown hgr hu).set bt 4 x (by omega), fun g' hg' => ?_, hb⟩
    rcases hat' g' hg' with h1 | h1
    · exact hu g' h1
    · have := kp.size; have := b1.size; exact .inr (by omega)
  · obtain rfl : i = k := by omega
    have e1 : (ps ++ [(t, s)])[i]'(by simp; omega) = (t, s) := by
      rw [List.getElem_append_right (by omega)]; simp [fl]
    rw [e1]
    refine ⟨w3, wr.heap.size, hv, ((((KeptY.refl _ w3).alloc o1).alloc o2).grown hgr (fun g hg => .inl (hug g hg))).set bt 4 x (by omega), fun g' hg' => ?_, hbL⟩
    rcases hat' g' hg' with h1 | h1
    · exact .inl (hug g' h1)
    · exact .inr h1
def encs8 (ps : List (FT × Value)) : List Value := ps.flatMap fun p => enc8 p.1.n p.2
theorem encs8_snoc (ps : List (FT × Value)) (t : FT) (s : Value) : encs8 (ps ++ [(t, s)]) = encs8 ps ++ enc8 t.n s := by simp [encs8]
theorem encs8_len : ∀ (ps : List (FT × Value)), (encs8 ps).length = ps.length * 5
  | [] => rfl
  | p :: ps => by have := encs8_len ps; simp [encs8, enc8] at this ⊢; omega
theorem encs8_get : ∀ (l : List (FT × Value)) (i j : Nat) (h : i < l.length), j < 5 → (encs8 l)[i * 5 + j]? = (enc8 l[i].1.n l[i].2)[j]?
  | [], i, j, h, _ => by simp at h
  | p :: l, 0, j, _, hj => by
    simp only [encs8, List.flatMap_cons, Nat.zero_mul, Nat.zero_add, List.getElem_cons_zero]
    rw [List.getElem?_append_left (by simp [enc8]; omega)]
  | p :: l, i + 1, j, h, hj => by
    simp only [encs8, List.flatMap_cons, List.getElem_cons_succ]
    rw [List.getElem?_append_right (by simp [enc8]; omega)]
    have := encs8_get l i j (by simpa using h) hj
    rw [show (i + 1) * 5 + j - (enc8 p.1.n p.2).length = i * 5 + j by simp [enc8]; omega]
    exact this
theorem own8_cell {w : World} {base cap len e g : Nat} {ps : List (FT × Value)} (h : w.ownsRow base e 5 (.slice (some ⟨g, 0, none⟩) len cap) len (encs8 ps)) (i j : Nat) (hi : i < ps.length) (hj : j < 5) (v : Value) (hv : (enc8 ps[i].1.n ps[i].2)[j]? = some v) : w.cell? ⟨g, i * 5 + j, none⟩ = some v := by
  have h2 := h.cells (g := g) rfl (i * 5 + j) v (by rw [encs8_get _ _ _ hi hj]; exact hv)
  simp only [Addr.add] at h2
  split at h2
  · rename_i e0
    rw [e0]; exact h2
  · simpa using h2
theorem own8_at {w : World} {base cap len e g : Nat} {ps : List (FT × Value)} (h : w.ownsRow base e 5 (.slice (some ⟨g, 0, none⟩) len cap) len (encs8 ps)) (i : Nat) (hi : i < ps.length) : At8 w g (i * 5) ps[i].1.n ps[i].2 :=
  ⟨own8_cell h i 0 hi (by omega) _ rfl, own8_cell h i 1 hi (by omega) _ rfl, own8_cell h i 2 hi (by omega) _ rfl, own8_cell h i 3 hi (by omega) _ rfl, own8_cell h i 4 hi (by omega) _ rfl⟩
/-- What was made and lies in one row is a tree. -/
theorem MadeY.tree {r base e : Nat} {w : World} {v : Value} {ps : List (FT × Value)} {x : FilterNodeT} (hm : MadeY r base w v ps) (ho : w.ownsRow base e 5 v ps.length (encs8 ps)) (h6 : x.f3 = (ps.length : Int)) (h10 : ps.length ≤ 20) : TrAt (r + 1) w base v (.node x (ps.map (·.1))) := by
  obtain ⟨a, cap, ev⟩ := own_sl ho
  subst ev
  refine ⟨by simpa [FT.n, FT.kids] using h6, by simpa [FT.kids] using h10, a, cap, by simp [FT.kids], ?_⟩
  rcases ho.2 with ⟨e1, hn⟩ | ⟨g, c, cur, hv, hg, hc, _⟩
  · left; simp at e1; simp [FT.kids]; exact e1.2.1
  · right
    injection hv with hv
    subst hv
    refine ⟨g, rfl, hg, (Array.getElem?_eq_some_iff.1 hc).1, fun i hi => ?_⟩
    have hi' : i < ps.length := by simpa [FT.kids] using hi
    obtain ⟨wi, lo, ht, hk, _, hb⟩ := hm i hi'
    refine ⟨ps[i].2, ?_, ?_⟩
    · have := own8_at ho i hi'
      simpa [FT.kids] using this
    · have := (ht.keptY hk).low hb
      simpa [FT.kids] using this
end Go.Proofs.Ytlkpeolecfemnaa.V
