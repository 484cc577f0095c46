/- impl.filterTreeOf; trees of filters in memory. -/
import Derived.Test.YtlkpeolecfemnaaUNod
import Derived.Maps.AppendAt
import Derived.Deep.RegionHeld
namespace Go.Proofs.Ytlkpeolecfemnaa.V
open Go.RowKit Go.Maps

theorem cellG {B : Nat} {W w' : World} {p : Addr} {v : Value} (hb : Below B W w') (hz : p.block < B) (hc : W.cell? p = some v) : w'.cell? p = some v := by
  rw [hb.cell hz]; exact hc
/-- A list lies below B, or is empty. -/
def InB (B : Nat) (a : Option Addr) (l : List FilterNodeT) : Prop := l = [] ∨ ∃ b off, a = some ⟨b, off, none⟩ ∧ b < B
theorem SlFilterNode.keepB {B : Nat} {w w1 : World} {a : Option Addr} {len : Nat} {l : List FilterNodeT} (h : SlFilterNode w a len l) (hI : InB B a l) (hb : Below B w w1) (hB : B ≤ w1.heap.size) : SlFilterNode w1 a len l :=
  ⟨h.1, by
    rcases h.2 with e | ⟨b, off, e, r⟩
    · exact .inl e
    · rcases hI with e' | ⟨b', off', e', hlt⟩
      · exact .inl e'
      · rw [e] at e'
        simp at e'
        obtain ⟨rfl, rfl⟩ := e'
        exact .inr ⟨b, off, e, ⟨by omega, fun i hi => cellG hb hlt (r.c0 i hi), fun i hi => cellG hb hlt (r.c1 i hi), fun i hi => cellG hb hlt (r.c2 i hi), fun i hi => cellG hb hlt (r.c3 i hi)⟩⟩⟩
theorem SlFilterNode.inB {w : World} {a : Option Addr} {len : Nat} {l : List FilterNodeT} (h : SlFilterNode w a len l) : InB w.heap.size a l := by
  rcases h.2 with e | ⟨b, off, e, r⟩
  · exact .inl e
  · exact .inr ⟨b, off, e, r.z⟩
theorem SlFilterNode.head {w : World} {a : Option Addr} {len : Nat} {x : FilterNodeT} {l : List FilterNodeT} (h : SlFilterNode w a len (x :: l)) : ∃ b off, a = some ⟨b, off, none⟩ ∧ FilterNodeRow w b off (x :: l) := by
  rcases h.2 with e | e
  · cases e
  · exact e
theorem FilterNodeRow.tail {w : World} {b off : Nat} {x : FilterNodeT} {l : List FilterNodeT} (h : FilterNodeRow w b off (x :: l)) : FilterNodeRow w b (off + 4) l :=
  ⟨h.z, fun i hi => by have := h.c0 (i + 1) (by simpa using hi); rw [← show off + (i + 1) * 4 = off + 4 + i * 4 by omega]; simpa using this,
   fun i hi => by have := h.c1 (i + 1) (by simpa using hi); rw [← show off + (i + 1) * 4 + 1 = off + 4 + i * 4 + 1 by omega]; simpa using this,
   fun i hi => by have := h.c2 (i + 1) (by simpa using hi); rw [← show off + (i + 1) * 4 + 2 = off + 4 + i * 4 + 2 by omega]; simpa using this,
   fun i hi => by have := h.c3 (i + 1) (by simpa using hi); rw [← show off + (i + 1) * 4 + 3 = off + 4 + i * 4 + 3 by omega]; simpa using this⟩
/-- What lies in blocks from lo on is the same. -/
structure Fu (lo : Nat) (w w1 : World) : Prop where
  size : w.heap.size ≤ w1.heap.size
  cell : ∀ b o v, lo ≤ b → w.cell? ⟨b, o, none⟩ = some v → w1.cell? ⟨b, o, none⟩ = some v
theorem Fu.below {w w1 : World} (h : Below w.heap.size w w1) (lo : Nat) : Fu lo w w1 := ⟨h.size, fun b o _ _ hc => cellB h (World.block_lt_of_cell? w ⟨b, o, none⟩ hc) hc⟩
theorem Fu.set {lo : Nat} (w : World) {b' o' : Nat} (v : Value) (h : b' < lo) : Fu lo w (w.setCell ⟨b', o', none⟩ v) := ⟨by simp [World.setCell], fun b o u hb hc => by rw [World.cell?_setCell_far _ _ _ _ (show b' ≠ b by omega)]; exact hc⟩
theorem Fu.trans {lo : Nat} {w w1 w2 : World} (h : Fu lo w w1) (k : Fu lo w1 w2) : Fu lo w w2 := ⟨Nat.le_trans h.size k.size, fun b o v hb hc => k.cell b o v hb (h.cell b o v hb hc)⟩
/-- What filterTreeOf makes of a node, its kids' slice and the first of them. -/
def treeV (x : FilterNodeT) (s v0 : Value) : Value :=
  if x.f0 = 1 then .iface 53 s else if x.f0 = 2 then .iface 55 s else if x.f0 = 3 then .iface 57 (.agg #[v0]) else if x.f0 = 7 then .iface 59 (.agg #[.string x.f1])
  else if x.f0 = 5 then .iface 65 (.agg #[.string x.f1, .string x.f2, .int .i64 1]) else if x.f0 = 6 then .iface 65 (.agg #[.string x.f1, .string x.f2, .int .i64 (-1)]) else if x.f0 = 8 then .iface 63 (.agg #[.string x.f1, .string x.f2])
  else .iface 61 (.agg #[.string x.f1, .string x.f2])
theorem treeV_if (x : FilterNodeT) (s v0 : Value) : ∃ T u, treeV x s v0 = .iface T u := by
  unfold treeV
  repeat' split
  all_goals exact ⟨_, _, rfl⟩
/-- A tree in memory, in blocks from lo on. -/
def FilAt (w : World) (lo : Nat) : Nat → FT → Value → Prop
  | 0, _, _ => False
  | r + 1, .node x ks, v => ∃ (b : Nat) (vs : List Value), v = treeV x (.slice (some ⟨b, 0, none⟩) ks.length ks.length) (vs.getD 0 .nilIface) ∧ vs.length = ks.length ∧ lo ≤ b ∧ b < w.heap.size ∧ (∀ i (h : i < vs.length), w.cell? ⟨b, i, none⟩ = some vs[i]) ∧ ∀ i (h : i < ks.length) (h' : i < vs.length), FilAt w lo r ks[i] vs[i]
theorem FilAt.fr : ∀ {r : Nat} {w w1 : World} {lo : Nat} {t : FT} {v : Value}, FilAt w lo r t v → Fu lo w w1 → FilAt w1 lo r t v
  | 0, _, _, _, .node _ _, _, h, _ => h
  | _ + 1, _, _, _, .node _ _, _, ⟨b, vs, h1, h2, h3, h4, h5, h6⟩, hf => ⟨b, vs, h1, h2, h3, Nat.lt_of_lt_of_le h4 hf.size, fun i hi => hf.cell _ _ _ h3 (h5 i hi), fun i hi hi' => (h6 i hi hi').fr hf⟩
theorem FilAt.lo : ∀ {r : Nat} {w : World} {lo lo' : Nat} {t : FT} {v : Value}, FilAt w lo r t v → lo' ≤ lo → FilAt w lo' r t v
  | 0, _, _, _, .node _ _, _, h, _ => h
  | _ + 1, _, _, _, .node _ _, _, ⟨b, vs, h1, h2, h3, h4, h5, h6⟩, hl => ⟨b, vs, h1, h2, Nat.le_trans hl h3, h4, h5, fun i hi hi' => (h6 i hi hi').lo hl⟩
theorem FilAt.if_ {r : Nat} {w : World} {lo : Nat} {t : FT} {v : Value} (h : FilAt w lo r t v) : ∃ T u, v = .iface T u := by
  match r, t, h with
  | 0, .node _ _, h => exact absurd h id
  | r + 1, .node x ks, ⟨b, vs, h1, _⟩ => obtain ⟨T, u, e⟩ := treeV_if x (.slice (some ⟨b, 0, none⟩) ks.length ks.length) (vs.getD 0 .nilIface); exact ⟨T, u, h1.trans e⟩
set_option maxRecDepth 20000 in
set_option maxHeartbeats 2000000 in
theorem filterTreeOf_any (x : FilterNodeT) (b n : Nat) (v0 : Value) (w : World) (hn : NodeP x) (h3 : x.f3 = n) (h0 : 0 < n → (∃ T u, v0 = .iface T u) ∧ w.cell? ⟨b, 0, none⟩ = some v0) :
    Calls Try.prog 27 #[eAgg x, .slice (some ⟨b, 0, none⟩) n n] w fun e w' => e = .returned (treeV x (.slice (some ⟨b, 0, none⟩) n n) v0) ∧ Below w.heap.size w w' := by
  have hk : x.f0 = 3 → n = 1 := fun e => by unfold NodeP at hn; rw [if_neg (by omega), if_pos e] at hn; omega
  have hd : x.f0 = 1 ∨ x.f0 = 2 ∨ x.f0 = 3 ∨ x.f0 = 4 ∨ x.f0 = 5 ∨ x.f0 = 6 ∨ x.f0 = 7 ∨ x.f0 = 8 := by
    unfold NodeP at hn
    repeat' split at hn
    all_goals (try (cases hn; done))
    all_goals omega
  clear hn h3
  have B := hide (bAl (Below.refl w.heap.size w) (.cells (eRow x) 32))
  unfold treeV
  obtain ⟨f0, f1, f2, f3⟩ := x
  simp only at *
  rcases hd with rfl | rfl | rfl | rfl | rfl | rfl | rfl | rfl
  case inr.inr.inl =>
    obtain rfl := hk rfl
    obtain ⟨⟨T0, u0, rfl⟩, c0⟩ := h0 (by omega)
    have z0 := World.block_lt_of_cell? w ⟨b, 0, none⟩ c0
    have c0' : (w.alloc (.cells #[.int .i64 3, .string f1, .string f2, .int .i64 f3] 32)).cell? ⟨b, 0, none⟩ = some (.iface T0 u0) := by rw [World.cell?_alloc_some _ _ _ (by rw [c0]; rfl)]; exact c0
    clear h0 hk
    go_enter Try.func27, Try.ntmps27
    go_wp2_with fail
    go_ret
    exact ⟨rfl, unhide B⟩
  all_goals clear h0 hk
  all_goals go_enter Try.func27, Try.ntmps27
  all_goals go_wp2_with fail
  all_goals go_ret
  all_goals exact ⟨rfl, unhide B⟩
end Go.Proofs.Ytlkpeolecfemnaa.V
