/- KGh, KGi, one behind the other. -/
import Derived.Test.YtkgneiideibfjaaGreatDoorJ28
import Derived.Test.YtkgneiideibfjaaGreatDoorJ32
import Derived.Deep.Cut
import Derived.Deep.RegionHeld3
/- What is kept from call to call in the law of Attenuate. -/
namespace Go.Proofs.YtkgneiideibfjaaGreatDoor.D
set_option maxRecDepth 20000
open Go.RowKit

/-- The law's arguments. -/
structure AtX where
  id : ByteArray
  a1 : Option Addr
  a2 : Option Addr
  n1 : Nat
  c1 : Nat
  c2 : Nat
  T : List V.CavTermT
  G : List UInt8
  t : V.CavTermT
abbrev AtX.tc (x : AtX) : Array Value := #[.string x.t.f0, .int .i64 x.t.f1, .string x.t.f2, .int .i64 x.t.f3, .int .i64 x.t.f4, .string x.t.f5, .string x.t.f6]
abbrev AtX.cc (x : AtX) : Array Value := #[.string x.id, .slice x.a1 x.n1 x.c1, .slice x.a2 x.G.length x.c2]
abbrev AtX.cv (x : AtX) (g1 g2 : Nat) : Value := .agg #[.string x.id, .slice (some ⟨g1, 0, none⟩) x.n1 x.n1, .slice (some ⟨g2, 0, none⟩) x.G.length x.G.length]
structure AtX.Ok (x : AtX) (w : World) : Prop where
  id : x.id.size ≤ maxLen
  n1 : x.n1 ≤ 1048576
  s : V.SlCavTerm w x.a1 x.n1 x.T
  ok : ∀ q ∈ x.T, V.CavTermT.Ok q
  g : SlB w w.heap.size x.a2 x.G.length x.G
  n2 : x.G.length ≤ 1048576
  t : x.t.Ok
/-- An answer: rows of its own. -/
structure OwA where
  b : Nat
  v1 : Value
  v2 : Value
  I : ByteArray
  T : List V.CavTermT
  G : List UInt8
structure OwA.At (o : OwA) (W : World) : Prop where
  o1 : W.ownsRow o.b 39 7 o.v1 o.T.length (V.CavTermsV o.T)
  o2 : W.ownsRow o.b 5 1 o.v2 o.G.length (o.G.map byteV)
/-- A copy of the capability that was handed in. -/
structure Cop (x : AtX) (y : Nat × Nat × Array Value) (W : World) : Prop where
  r1 : RowIs W y.1 y.2.2 39
  z : y.2.2.size = x.n1 * 7
  w : V.CavTermRow W y.1 0 x.T
  r2 : RowIs W y.2.1 (cellsOf x.G) 5
theorem Cop.keep {x : AtX} {y : Nat × Nat × Array Value} {W W' : World} (h : Cop x y W) (hb : Below W.heap.size W W') : Cop x y W' := ⟨h.r1.keep hb, h.z, h.w.keep hb, h.r2.keep hb⟩
theorem OwA.At.keep {o : OwA} {W W' : World} (h : o.At W) (hb : Below W.heap.size W W') : o.At W' := ⟨own_keepA h.o1 hb, own_keepA h.o2 hb⟩
structure EvA (w : World) (x : AtX) (bs : List (Nat × Value × Value × Value)) (cs : List (Nat × Nat × Array Value)) (os : List OwA) (rs : List (Nat × Array Value × TypeId)) (W : World) : Prop where
  c : RowIs W w.heap.size x.cc 25
  t : RowIs W (w.heap.size + 1) x.tc 29
  b : ∀ y ∈ bs, RowIs W y.1 #[y.2.1, y.2.2.1, y.2.2.2] 34
  cp : ∀ y ∈ cs, Cop x y W
  ow : ∀ o ∈ os, o.At W
  rw' : ∀ y ∈ rs, RowIs W y.1 y.2.1 y.2.2 ∧ y.2.2 ≠ 34
  B : Below w.heap.size w W
  hi : ∀ y ∈ bs, w.heap.size + 1 < y.1
  d : bs.Pairwise fun y y' => y.1 ≠ y'.1
variable {w : World} {x : AtX} {bs : List (Nat × Value × Value × Value)} {cs : List (Nat × Nat × Array Value)} {os : List OwA} {rs : List (Nat × Array Value × TypeId)}
theorem EvA.keep {W W' : World} (h : EvA w x bs cs os rs W) (hb : Below W.heap.size W W') : EvA w x bs cs os rs W' :=
  ⟨h.c.keep hb, h.t.keep hb, fun y hy => (h.b y hy).keep hb, fun y hy => (h.cp y hy).keep hb, fun y hy => (h.ow y hy).keep hb, fun y hy => ⟨(h.rw' y hy).1.keep hb, (h.rw' y hy).2⟩, bTr h.B hb, h.hi, h.d⟩
theorem EvA.al {W : World} (h : EvA w x bs cs os rs W) (o : Obj) : EvA w x bs cs os rs (W.alloc o) := h.keep (bAl (Below.refl _ _) o)
theorem EvA.dr {W : World} (h : EvA w x bs cs os rs W) : EvA w x bs cs os rs W.drew := h.keep (Below.refl _ _).drew
theorem EvA.alB {W : World} (h : EvA w x bs cs os rs W) (u v z : Value) : EvA w x ((W.heap.size, u, v, z) :: bs) cs os rs (W.alloc (.cells #[u, v, z] 34)) :=
  ⟨(h.al _).c, (h.al _).t, fun y hy => by
    rcases List.mem_cons.1 hy with rfl | hy
    · exact RowIs.new _ _ _
    · exact (h.al _).b y hy, (h.al _).cp, (h.al _).ow, (h.al _).rw', (h.al _).B, fun y hy => by
    rcases List.mem_cons.1 hy with rfl | hy
    · exact h.t.lt
    · exact h.hi y hy, List.pairwise_cons.2 ⟨fun y hy => Nat.ne_of_gt (h.b y hy).lt, h.d⟩⟩
theorem EvA.more {W : World} {y : Nat × Nat × Array Value} (h : EvA w x bs cs os rs W) (hy : Cop x y W) : EvA w x bs (y :: cs) os rs W :=
  ⟨h.c, h.t, h.b, fun z hz => by
    rcases List.mem_cons.1 hz with rfl | hz
    · exact hy
    · exact h.cp z hz, h.ow, h.rw', h.B, h.hi, h.d⟩
theorem EvA.moreO {W : World} {o : OwA} (h : EvA w x bs cs os rs W) (ho : o.At W) : EvA w x bs cs (o :: os) rs W :=
  ⟨h.c, h.t, h.b, h.cp, fun z hz => by
    rcases List.mem_cons.1 hz with rfl | hz
    · exact ho
    · exact h.ow z hz, h.rw', h.B, h.hi, h.d⟩
theorem EvA.less {W : World} {y : Nat × Nat × Array Value} (h : EvA w x bs (y :: cs) os rs W) : EvA w x bs cs os rs W := ⟨h.c, h.t, h.b, fun z hz => h.cp z (List.mem_cons_of_mem _ hz), h.ow, h.rw', h.B, h.hi, h.d⟩
theorem EvA.lessO {W : World} {o : OwA} (h : EvA w x bs cs (o :: os) rs W) : EvA w x bs cs os rs W := ⟨h.c, h.t, h.b, h.cp, fun z hz => h.ow z (List.mem_cons_of_mem _ hz), h.rw', h.B, h.hi, h.d⟩
theorem rows_ne {W : World} {a b : Nat} {C D : Array Value} {S T : TypeId} (h : RowIs W a C S) (k : RowIs W b D T) (hT : S ≠ T) : a ≠ b := by
  intro e
  subst e
  unfold RowIs at h k
  rw [h] at k
  simp at k
  exact hT k.2
theorem own_row_ne {W : World} {base e size n : Nat} {v : Value} {xs : List Value} {g : Nat} {C : Array Value} {T : TypeId} (h : W.ownsRow base e size v n xs) (k : RowIs W g C T) (hT : e ≠ T) : ∀ b, v.ownBlock = some b → b ≠ g := by
  intro b hb
  rcases h.2 with ⟨rfl, _⟩ | ⟨g1, cap, cur, rfl, _, hh, _⟩
  · cases hb
  · simp only [Value.ownBlock, Option.some.injEq] at hb
    subst hb
    exact rows_ne (show RowIs W g1 cur e from hh) k hT
theorem EvA.put1 {W : World} {g : Nat} {u v z : Value} (h : EvA w x ((g, u, v, z) :: bs) cs os rs W) (i : Nat) (a : Value) {u' v' z' : Value} (he : (#[u, v, z] : Array Value).setIfInBounds i a = #[u', v', z']) : EvA w x ((g, u', v', z') :: bs) cs os rs (W.setCell ⟨g, i, none⟩ a) := by
  have hg := h.b _ (List.mem_cons_self ..)
  have hlt := h.hi _ (List.mem_cons_self ..)
  have bt : But g W (W.setCell ⟨g, i, none⟩ a) := (But.refl _ _).set _
  refine ⟨bt.row h.c (by simp at hlt; omega), bt.row h.t (by simp at hlt; omega), fun y hy => ?_, fun y hy => ?_, fun o ho => ?_, fun y hy => ⟨bt.row (h.rw' y hy).1 (rows_ne (h.rw' y hy).1 hg (h.rw' y hy).2), (h.rw' y hy).2⟩, h.B.setCell (by show w.heap.size ≤ g; simp at hlt; omega) _, fun y hy => ?_, ?_⟩
  · rcases List.mem_cons.1 hy with rfl | hy
    · have := hg.set i a
      simp only at this
      rw [he] at this
      exact this
    · exact bt.row (h.b y (List.mem_cons_of_mem _ hy)) (fun e => (List.pairwise_cons.1 h.d).1 y hy e.symm)
  · have k := h.cp y hy
    have n1 := rows_ne k.r1 hg (by decide)
    have n2 := rows_ne k.r2 hg (by decide)
    exact ⟨bt.row k.r1 n1, k.z, term_same k.w k.r1 (bt.row k.r1 n1), bt.row k.r2 n2⟩
  · have k := h.ow o ho
    exact ⟨own_setA k.o1 (own_row_ne k.o1 hg (by decide)), own_setA k.o2 (own_row_ne k.o2 hg (by decide))⟩
  · rcases List.mem_cons.1 hy with rfl | hy
    · exact hlt
    · exact h.hi y (List.mem_cons_of_mem _ hy)
  · exact List.pairwise_cons.2 ⟨(List.pairwise_cons.1 h.d).1, (List.pairwise_cons.1 h.d).2⟩
theorem EvA.put {W : World} {g : Nat} {u v z : Value} (h : EvA w x ((g, u, v, z) :: bs) cs os rs W) (u' v' z' : Value) : EvA w x ((g, u', v', z') :: bs) cs os rs (((W.setCell ⟨g, 0, none⟩ u').setCell ⟨g, 1, none⟩ v').setCell ⟨g, 2, none⟩ z') :=
  ((h.put1 0 u' (u' := u') (v' := v) (z' := z) rfl).put1 1 v' (u' := u') (v' := v') (z' := z) rfl).put1 2 z' rfl
/-- All that is known of lies below b. -/
structure Above (w : World) (cs : List (Nat × Nat × Array Value)) (os : List OwA) (b : Nat) : Prop where
  lo : w.heap.size ≤ b
  o : ∀ o ∈ os, (∀ g, o.v1.ownBlock = some g → g < b) ∧ (∀ g, o.v2.ownBlock = some g → g < b)
  c : ∀ y ∈ cs, y.1 < b ∧ y.2.1 < b
theorem EvA.above {W : World} (h : EvA w x bs cs os rs W) : Above w cs os W.heap.size :=
  ⟨h.B.size, fun o ho => ⟨fun g e => ((h.ow o ho).o1.lt g e).2, fun g e => ((h.ow o ho).o2.lt g e).2⟩, fun y hy => ⟨(h.cp y hy).r1.lt, (h.cp y hy).r2.lt⟩⟩
theorem Above.mono {b b' : Nat} (h : Above w cs os b) (hb : b ≤ b') : Above w cs os b' :=
  ⟨Nat.le_trans h.lo hb, fun o ho => ⟨fun g e => Nat.lt_of_lt_of_le ((h.o o ho).1 g e) hb, fun g e => Nat.lt_of_lt_of_le ((h.o o ho).2 g e) hb⟩, fun y hy => ⟨Nat.lt_of_lt_of_le (h.c y hy).1 hb, Nat.lt_of_lt_of_le (h.c y hy).2 hb⟩⟩
theorem toCap_ev {W : World} (h : EvA w x bs cs os rs W) (hx : x.Ok w) :
    Calls Tryz.prog 7 #[.agg x.cc] W fun e w' => ∃ g1 g2 C, e = .returned (x.cv g1 g2) ∧ Above w cs os g1 ∧ g1 < g2 ∧ EvA w x bs ((g1, g2, C) :: cs) os rs w' := by
  refine (toCap_any x.id x.a1 x.a2 x.n1 x.c1 x.G.length x.c2 x.T x.G W hx.n1 hx.n2 (hx.s.keep h.B) ((hx.g.keep h.B).mono h.B.size)).mono ?_
  rintro e w' ⟨⟨g1, g2, C, rfl, r1, z, r, r2, l1, l2⟩, hb⟩
  exact ⟨g1, g2, C, rfl, h.above.mono l1, l2, (h.keep hb).more ⟨r1, z, r, r2⟩⟩
theorem toT_ev {W : World} (h : EvA w x bs cs os rs W) :
    Calls Tryz.prog 8 #[.agg x.tc] W fun e w' => e = .returned (.agg x.tc) ∧ EvA w x bs cs os rs w' := by
  refine (V.toCavTerm_any x.t.f0 x.t.f1 x.t.f2 x.t.f3 x.t.f4 x.t.f5 x.t.f6 W).mono ?_
  rintro e w' ⟨rfl, hb⟩
  exact ⟨rfl, h.keep hb⟩
theorem sAtt_ev {W : World} {g1 g2 : Nat} {C : Array Value} (h : EvA w x bs ((g1, g2, C) :: cs) os rs W) (hx : x.Ok w) (hl : x.n1 = x.T.length) :
    Calls Tryz.prog 6 #[x.cv g1 g2, .agg x.tc] W fun e w' => ∃ (o : OwA) (p1 p2 : Option Addr) (k1 k2 : Nat), AttOut x.id x.T x.G x.t o.I o.T o.G ∧ o.v1 = .slice p1 o.T.length k1 ∧ o.v2 = .slice p2 o.G.length k2 ∧ e = .returned (.agg #[.string o.I, .slice p1 o.T.length k1, .slice p2 o.G.length k2]) ∧ Above w ((g1, g2, C) :: cs) os o.b ∧ EvA w x bs ((g1, g2, C) :: cs) (o :: os) rs w' := by
  have k := h.cp _ (List.mem_cons_self ..)
  have sb := slB_row k.r2 k.r2.lt
  refine (sAttenuate_any x.id (some ⟨g1, 0, none⟩) (some ⟨g2, 0, none⟩) x.n1 x.n1 x.G.length x.T x.G x.t W hx.id hx.n1 ⟨hl, .inr ⟨_, 0, rfl, k.w⟩⟩ hx.ok sb hx.n2 hx.t (Nat.le_refl _) (fun e => by cases e)).mono ?_
  rintro e w' ⟨⟨v1, v2, I, T', G', hA, rfl, o1, o2⟩, hb⟩
  obtain ⟨p1, k1, rfl⟩ := own_form o1
  obtain ⟨p2, k2, rfl⟩ := own_form o2
  exact ⟨⟨W.heap.size, _, _, I, T', G'⟩, p1, p2, k1, k2, hA, rfl, rfl, rfl, h.above, (h.keep hb).moreO ⟨o1, o2⟩⟩
theorem iAtt_ev {W : World} {g1 g2 : Nat} {C : Array Value} (h : EvA w x bs ((g1, g2, C) :: cs) os rs W) (hx : x.Ok w) (hl : x.n1 = x.T.length) (hM : Mults w) (hS : V.Signs w) (hT : Tab w) :
    Calls Tryz.prog 9 #[x.cv g1 g2, .agg x.tc] W fun e w' => ∃ (o : OwA) (p1 p2 : Option Addr) (k1 k2 : Nat), AttOut x.id x.T x.G x.t o.I o.T o.G ∧ o.v1 = .slice p1 o.T.length k1 ∧ o.v2 = .slice p2 o.G.length k2 ∧ e = .returned (.agg #[.string o.I, .slice p1 o.T.length k1, .slice p2 o.G.length k2]) ∧ Above w ((g1, g2, C) :: cs) os o.b ∧ EvA w x bs ((g1, g2, C) :: cs) (o :: os) rs w' := by
  have k := h.cp _ (List.mem_cons_self ..)
  have sb := slB_row k.r2 k.r2.lt
  refine (iAttenuate_any x.id (some ⟨g1, 0, none⟩) (some ⟨g2, 0, none⟩) x.n1 x.n1 x.G.length x.T x.G x.t W hx.id hx.n1 ⟨hl, .inr ⟨_, 0, rfl, k.w⟩⟩ hx.ok sb hx.n2 hx.t (Nat.le_refl _) (fun e => by cases e) (hM.keepB h.B hM.1) (hS.keep h.B) (hT.keep h.B)).mono ?_
  rintro e w' ⟨⟨v1, v2, I, T', G', hA, rfl, o1, o2⟩, hb⟩
  obtain ⟨p1, k1, rfl⟩ := own_form o1
  obtain ⟨p2, k2, rfl⟩ := own_form o2
  exact ⟨⟨W.heap.size, _, _, I, T', G'⟩, p1, p2, k1, k2, hA, rfl, rfl, rfl, h.above, (h.keep hb).moreO ⟨o1, o2⟩⟩
structure AnsO (w : World) (x : AtX) (o : OwA) : Prop where
  a : AttOut x.id x.T x.G x.t o.I o.T o.G
  b : w.heap.size ≤ o.b
theorem AnsO.len {o : OwA} (h : AnsO w x o) : o.T.length ≤ 1000 ∧ o.G.length ≤ 1000 := by
  by_cases g : AttP x.id x.T x.t x.G.length
  · obtain ⟨_, e2, e3⟩ := h.a.yes g
    rw [e2, e3, mac_len]
    have := g.1.2.1.1
    rw [List.length_append]
    exact ⟨by show x.T.length + 1 ≤ 1000; omega, by omega⟩
  · obtain ⟨_, e2, e3⟩ := h.a.no g
    rw [e2, e3]
    exact ⟨by simp, by simp⟩
theorem eqO_ev {W : World} {o o' : OwA} (h : EvA w x bs cs os rs W) (m : o ∈ os) (m' : o' ∈ os) (ha : AnsO w x o) (ha' : AnsO w x o') :
    Calls Tryz.prog 10 #[.agg #[.string o.I, o.v1, o.v2], .agg #[.string o'.I, o'.v1, o'.v2]] W fun e w' => e = .returned (.bool true) ∧ EvA w x bs cs os rs w' := by
  obtain ⟨e1, e2, e3⟩ := ha.a.uniq ha'.a
  have z := ha'.len
  have k := h.ow o m
  have k' := h.ow o' m'
  obtain ⟨b, v1, v2, I, T', G'⟩ := o
  obtain ⟨b', u1, u2, I', T2, G2⟩ := o'
  simp only at e1 e2 e3 z
  subst e1 e2 e3
  have r1 := k.o1
  have r2 := k.o2
  have r3 := k'.o1
  have r4 := k'.o2
  simp only at r1 r2 r3 r4
  obtain ⟨p1, c1, rfl, s1⟩ := V.own_CavTerm r1
  obtain ⟨p3, c3, rfl, s3⟩ := V.own_CavTerm r3
  obtain ⟨p2, c2, rfl, s2⟩ := own_sl r2
  obtain ⟨p4, c4, rfl, s4⟩ := own_sl r4
  refine (eqCap_same I p1 p2 p3 p4 T'.length c1 G'.length c2 c3 c4 T' G' W (by omega) (by omega) s1 s2 s3 s4).mono ?_
  rintro e w' ⟨rfl, hb⟩
  exact ⟨rfl, h.keep hb⟩
theorem eqC_ev {W : World} {g1 g2 g3 g4 : Nat} {C C' : Array Value} (h : EvA w x bs cs os rs W) (m : (g1, g2, C) ∈ cs) (m' : (g3, g4, C') ∈ cs) (hx : x.Ok w) (hl : x.n1 = x.T.length) :
    Calls Tryz.prog 10 #[x.cv g1 g2, x.cv g3 g4] W fun e w' => e = .returned (.bool true) ∧ EvA w x bs cs os rs w' := by
  have k := h.cp _ m
  have k' := h.cp _ m'
  refine (eqCap_same x.id (some ⟨g1, 0, none⟩) (some ⟨g2, 0, none⟩) (some ⟨g3, 0, none⟩) (some ⟨g4, 0, none⟩) x.n1 x.n1 x.G.length x.G.length x.n1 x.G.length x.T x.G W hx.n1 hx.n2 ⟨hl, .inr ⟨_, 0, rfl, k.w⟩⟩ (slB_row k.r2 k.r2.lt) ⟨hl, .inr ⟨_, 0, rfl, k'.w⟩⟩ (slB_row k'.r2 k'.r2.lt)).mono ?_
  rintro e w' ⟨rfl, hb⟩
  exact ⟨rfl, h.keep hb⟩
/-- Marks on two rows: what is left. -/
theorem EvA.marked {W W' : World} {a b : Option Nat} (h : EvA w x bs cs os rs W) (K : Kp W W' a b) (ha : ∀ g, a = some g → w.heap.size ≤ g) (hb : ∀ g, b = some g → w.heap.size ≤ g)
    (na : ∀ g, a = some g → ∃ C, RowIs W g C 39) (nb : ∀ g, b = some g → ∃ C, RowIs W g C 5) (os' : List OwA) (hs : ∀ o ∈ os', o ∈ os ∧ (∀ g, o.v1.ownBlock = some g → some g ≠ a ∧ some g ≠ b) ∧ (∀ g, o.v2.ownBlock = some g → some g ≠ a ∧ some g ≠ b)) : EvA w x bs [] os' [] W' := by
  have ne : ∀ {k : Nat} {C : Array Value} {T : TypeId}, RowIs W k C T → T ≠ 39 → T ≠ 5 → RowIs W' k C T := fun {k C T} r n1 n2 => K.row r (fun e => by
      obtain ⟨D, r'⟩ := na k e.symm
      exact rows_ne r r' n1 rfl) (fun e => by
      obtain ⟨D, r'⟩ := nb k e.symm
      exact rows_ne r r' n2 rfl)
  exact ⟨ne h.c (by decide) (by decide), K.row h.t (fun e => by
      obtain ⟨D, r'⟩ := na _ e.symm
      exact rows_ne h.t r' (by decide) rfl) (fun e => by
      obtain ⟨D, r'⟩ := nb _ e.symm
      exact rows_ne h.t r' (by decide) rfl), fun y hy => ne (h.b y hy) (by decide) (by decide), fun _ hy => absurd hy List.not_mem_nil, fun o ho => by
      obtain ⟨m, h1, h2⟩ := hs o ho
      exact ⟨K.own (h.ow o m).o1 (fun g e => (h1 g e).1) (fun g e => (h1 g e).2), K.own (h.ow o m).o2 (fun g e => (h2 g e).1) (fun g e => (h2 g e).2)⟩, fun _ hy => absurd hy List.not_mem_nil, h.B.trans (K.below h.B.size ha hb), h.hi, h.d⟩
theorem EvA.moreR {W : World} {y : Nat × Array Value × TypeId} (h : EvA w x bs cs os rs W) (hy : RowIs W y.1 y.2.1 y.2.2) (ht : y.2.2 ≠ 34) : EvA w x bs cs os (y :: rs) W :=
  ⟨h.c, h.t, h.b, h.cp, h.ow, fun z hz => by
    rcases List.mem_cons.1 hz with rfl | hz
    · exact ⟨hy, ht⟩
    · exact h.rw' z hz, h.B, h.hi, h.d⟩
end Go.Proofs.YtkgneiideibfjaaGreatDoor.D
/- The law of Attenuate: its walk. -/
namespace Go.Proofs.YtkgneiideibfjaaGreatDoor.D
set_option maxRecDepth 40000
open Go.RowKit
section
variable {w : World} {x : AtX} {bs : List (Nat × Value × Value × Value)} {cs : List (Nat × Nat × Array Value)} {os : List OwA} {rs : List (Nat × Array Value × TypeId)}
theorem EvA.cc {Z : World} (h : EvA w x bs cs os rs Z) : (Z.cell? ⟨w.heap.size, 0, none⟩ = some (.string x.id) ∧ Z.cell? ⟨w.heap.size, 1, none⟩ = some (.slice x.a1 x.n1 x.c1) ∧ Z.cell? ⟨w.heap.size, 2, none⟩ = some (.slice x.a2 x.G.length x.c2)) ∧ (Z.cell? ⟨w.heap.size + 1, 0, none⟩ = some (.string x.t.f0) ∧ Z.cell? ⟨w.heap.size + 1, 1, none⟩ = some (.int .i64 x.t.f1) ∧ Z.cell? ⟨w.heap.size + 1, 2, none⟩ = some (.string x.t.f2) ∧ Z.cell? ⟨w.heap.size + 1, 3, none⟩ = some (.int .i64 x.t.f3) ∧ Z.cell? ⟨w.heap.size + 1, 4, none⟩ = some (.int .i64 x.t.f4) ∧ Z.cell? ⟨w.heap.size + 1, 5, none⟩ = some (.string x.t.f5) ∧ Z.cell? ⟨w.heap.size + 1, 6, none⟩ = some (.string x.t.f6)) :=
  ⟨⟨h.c.at rfl, h.c.at rfl, h.c.at rfl⟩, h.t.at rfl, h.t.at rfl, h.t.at rfl, h.t.at rfl, h.t.at rfl, h.t.at rfl, h.t.at rfl⟩
theorem EvA.lt {Z : World} (h : EvA w x bs cs os rs Z) : w.heap.size < Z.heap.size ∧ w.heap.size + 1 < Z.heap.size := ⟨h.c.lt, h.t.lt⟩
theorem EvA.box {Z : World} {g : Nat} {u v z : Value} (h : EvA w x bs cs os rs Z) (hm : (g, u, v, z) ∈ bs) :
    Z.cell? ⟨g, 0, none⟩ = some u ∧ Z.cell? ⟨g, 1, none⟩ = some v ∧ Z.cell? ⟨g, 2, none⟩ = some z ∧ Z.frozen? ⟨g, 0, none⟩ = false ∧ Z.frozen? ⟨g, 1, none⟩ = false ∧ Z.frozen? ⟨g, 2, none⟩ = false ∧ g < Z.heap.size :=
  have r := h.b _ hm
  ⟨r.at rfl, r.at rfl, r.at rfl, r.froz 0, r.froz 1, r.froz 2, r.lt⟩
theorem EvA.xt {Z : World} {g : Nat} {u v z : Value} (h : EvA w x bs cs os rs Z) (hm : (g, u, v, z) ∈ bs) :
    (Z.cell? ⟨g, 0, none⟩ = some u ∧ Z.cell? ⟨g, 1, none⟩ = some v ∧ Z.cell? ⟨g, 2, none⟩ = some z) ∧ (Z.cell? ⟨w.heap.size + 1, 0, none⟩ = some (.string x.t.f0) ∧ Z.cell? ⟨w.heap.size + 1, 1, none⟩ = some (.int .i64 x.t.f1) ∧ Z.cell? ⟨w.heap.size + 1, 2, none⟩ = some (.string x.t.f2) ∧ Z.cell? ⟨w.heap.size + 1, 3, none⟩ = some (.int .i64 x.t.f3) ∧ Z.cell? ⟨w.heap.size + 1, 4, none⟩ = some (.int .i64 x.t.f4) ∧ Z.cell? ⟨w.heap.size + 1, 5, none⟩ = some (.string x.t.f5) ∧ Z.cell? ⟨w.heap.size + 1, 6, none⟩ = some (.string x.t.f6)) :=
  have r := h.b _ hm
  ⟨⟨r.at rfl, r.at rfl, r.at rfl⟩, h.t.at rfl, h.t.at rfl, h.t.at rfl, h.t.at rfl, h.t.at rfl, h.t.at rfl, h.t.at rfl⟩
theorem EvA.xc {Z : World} {g : Nat} {u v z : Value} (h : EvA w x bs cs os rs Z) (hm : (g, u, v, z) ∈ bs) :
    (Z.cell? ⟨g, 0, none⟩ = some u ∧ Z.cell? ⟨g, 1, none⟩ = some v ∧ Z.cell? ⟨g, 2, none⟩ = some z) ∧ (Z.cell? ⟨w.heap.size, 0, none⟩ = some (.string x.id) ∧ Z.cell? ⟨w.heap.size, 1, none⟩ = some (.slice x.a1 x.n1 x.c1) ∧ Z.cell? ⟨w.heap.size, 2, none⟩ = some (.slice x.a2 x.G.length x.c2)) :=
  have r := h.b _ hm
  ⟨⟨r.at rfl, r.at rfl, r.at rfl⟩, h.c.at rfl, h.c.at rfl, h.c.at rfl⟩
theorem marks_rs {W : World} {v1 v2 : Value} {s n m : Nat} {k : Int} (h1 : MkT W v1 s n) (h2 : MkB W v2 k m) : ∃ rs : List (Nat × Array Value × TypeId), (∀ y ∈ rs, RowIs W y.1 y.2.1 y.2.2 ∧ y.2.2 ≠ 34) ∧ ∀ W', (∀ y ∈ rs, RowIs W' y.1 y.2.1 y.2.2) → MkT W' v1 s n ∧ MkB W' v2 k m := by
  rcases h1 with h1 | ⟨g, cap, C, e, r, hM⟩ <;> rcases h2 with h2 | ⟨g', cap', C', e', r', hM'⟩
  · exact ⟨[], fun _ h => absurd h List.not_mem_nil, fun _ _ => ⟨.inl h1, .inl h2⟩⟩
  · exact ⟨[(g', C', 5)], fun y hy => by simp at hy; subst hy; exact ⟨r', show (5 : TypeId) ≠ 34 by decide⟩, fun W' h => ⟨.inl h1, .inr ⟨g', cap', C', e', h _ (List.mem_cons_self ..), hM'⟩⟩⟩
  · exact ⟨[(g, C, 39)], fun y hy => by simp at hy; subst hy; exact ⟨r, show (39 : TypeId) ≠ 34 by decide⟩, fun W' h => ⟨.inr ⟨g, cap, C, e, h _ (List.mem_cons_self ..), hM⟩, .inl h2⟩⟩
  · exact ⟨[(g, C, 39), (g', C', 5)], fun y hy => by
      simp at hy
      rcases hy with rfl | rfl
      · exact ⟨r, show (39 : TypeId) ≠ 34 by decide⟩
      · exact ⟨r', show (5 : TypeId) ≠ 34 by decide⟩, fun W' h => ⟨.inr ⟨g, cap, C, e, h _ (List.mem_cons_self ..), hM⟩, .inr ⟨g', cap', C', e', h _ (List.mem_cons_of_mem _ (List.mem_cons_self ..)), hM'⟩⟩⟩
theorem own_cells_ty {W : World} {base e size n : Nat} {v : Value} {xs : List Value} (h : W.ownsRow base e size v n xs) : ∀ g, v.ownBlock = some g → ∃ C, RowIs W g C e := by
  intro g hg
  rcases h.2 with ⟨rfl, _⟩ | ⟨g1, cap, cur, rfl, _, hh, _⟩
  · cases hg
  · simp only [Value.ownBlock, Option.some.injEq] at hg
    subst hg
    exact ⟨cur, hh⟩
theorem EvA.withR {W : World} (h : EvA w x bs cs os [] W) (hr : ∀ y ∈ rs, RowIs W y.1 y.2.1 y.2.2 ∧ y.2.2 ≠ 34) : EvA w x bs cs os rs W := ⟨h.c, h.t, h.b, h.cp, h.ow, hr, h.B, h.hi, h.d⟩
end
set_option maxHeartbeats 16000000 in
theorem walkA (x : AtX) (w : World) (hid : x.id.size ≤ maxLen) (hl : x.n1 ≤ maxLen) (hs : V.SlCavTerm w x.a1 x.n1 x.T) (ok : ∀ q ∈ x.T, V.CavTermT.Ok q) (hg : SlB w w.heap.size x.a2 x.G.length x.G) (hlg : x.G.length ≤ maxLen) (okt : x.t.Ok) (hT : Tab w) (hS : V.Signs w) (hM : Mults w) :
    Calls Tryz.prog 3 #[.agg x.cc, .agg x.tc] w fun e w' => e = .returned (.bool true) ∧ Below w.heap.size w w' := by
  obtain ⟨W, hW⟩ : ∃ W, W = (w.alloc (.cells x.cc 25)).alloc (.cells x.tc 29) := ⟨_, rfl⟩
  have E0 := hide (show EvA w x [] [] [] [] W from ⟨by rw [hW]; exact (RowIs.new w _ _).keep (bAl (Below.refl _ _) _), by
      rw [hW]
      have := RowIs.new (w.alloc (.cells x.cc 25)) x.tc 29
      simpa using this, fun _ h => absurd h List.not_mem_nil, fun _ h => absurd h List.not_mem_nil, fun _ h => absurd h List.not_mem_nil, fun _ h => absurd h List.not_mem_nil, by rw [hW]; exact bAl (bAl (Below.refl _ _) _) _, fun _ h => absurd h List.not_mem_nil, List.Pairwise.nil⟩)
  have HW := hide hW.symm
  have qz := hide (fun q w' h0 h1 hs => szCap_any x.id x.a1 x.a2 x.n1 x.c1 x.G.length x.c2 x.T q w' h0 h1 hid hl hlg hs ok)
  have qt := hide (fun q w' h0 h1 => V.szCavTerm_any x.t.f0 x.t.f1 x.t.f2 x.t.f3 x.t.f4 x.t.f5 x.t.f6 q w' h0 h1 okt.o0 okt.o2 okt.o5 okt.o6)
  have XK := hide (fun (h1 : x.n1 ≤ 1048576) (h2 : x.G.length ≤ 1048576) => show x.Ok w from ⟨hid, h1, hs, ok, hg, h2, okt⟩)
  have HS := hide hs
  have HLL := hide hs.1
  have HM := hide hM
  have HG := hide hS
  have HT := hide hT
  clear hW hid hl hs ok hg hlg okt hT hS hM
  obtain ⟨⟨x0, x1, x2⟩, t0, t1, t2, t3, t4, t5, t6⟩ := (unhide E0).cc
  obtain ⟨xz, tz⟩ := (unhide E0).lt
  go_enter Tryz.func3, Tryz.ntmps3
  go_upto_region 1 with fail
  rw [unhide HW]
  go_wp2_with fail
  refine (unhide qz _ _ (by omega) (by omega) ((unhide HS).keep (unhide E0).B)).mono ?_
  rintro e w1 ⟨⟨m, hm1, hm2, hm3, rfl⟩, hb1⟩
  replace E0 := hide ((unhide E0).keep hb1)
  clear hb1 qz HW x0 x1 x2 t0 t1 t2 t3 t4 t5 t6 xz tz
  obtain ⟨⟨x0, x1, x2⟩, t0, t1, t2, t3, t4, t5, t6⟩ := (unhide E0).cc
  obtain ⟨xz, tz⟩ := (unhide E0).lt
  by_cases hm : m < 0
  · go_wp2_with fail
    go_ret
    exact ⟨rfl, (unhide E0).B⟩
  obtain ⟨z0, z1, z2⟩ := hm3 (by omega)
  clear hm3
  go_wp2_with fail
  refine (unhide qt _ _ (by omega) (by omega)).mono ?_
  rintro e w2 ⟨⟨m', hm1', hm2', rfl⟩, hb2⟩
  replace E0 := hide ((unhide E0).keep hb2)
  clear hb2 qt x0 x1 x2 t0 t1 t2 t3 t4 t5 t6 xz tz
  by_cases hm' : m' < 0
  · go_wp2_with fail
    go_ret
    exact ⟨rfl, (unhide E0).B⟩
  replace XK := hide (unhide XK z1 z2)
  go_upto_region 8 with fail
  go_cut [6] from 13 (fun b wx => ∃ (n : Nat) (o : OwA), b = .pointer (some ⟨n, 0, none⟩) ∧ Hid (AnsO w x o) ∧ Hid (EvA w x [(n, .string o.I, o.v1, o.v2)] [] [o] [] wx))
  case first =>
    have E1 := hide (unhide E0).dr
    have ES := E0
    go_region_held3 (fun Z => ((Z.cell? ⟨w.heap.size, 0, none⟩ = some (.string x.id) ∧ Z.cell? ⟨w.heap.size, 1, none⟩ = some (.slice x.a1 x.n1 x.c1) ∧ Z.cell? ⟨w.heap.size, 2, none⟩ = some (.slice x.a2 x.G.length x.c2)) ∧ (Z.cell? ⟨w.heap.size + 1, 0, none⟩ = some (.string x.t.f0) ∧ Z.cell? ⟨w.heap.size + 1, 1, none⟩ = some (.int .i64 x.t.f1) ∧ Z.cell? ⟨w.heap.size + 1, 2, none⟩ = some (.string x.t.f2) ∧ Z.cell? ⟨w.heap.size + 1, 3, none⟩ = some (.int .i64 x.t.f3) ∧ Z.cell? ⟨w.heap.size + 1, 4, none⟩ = some (.int .i64 x.t.f4) ∧ Z.cell? ⟨w.heap.size + 1, 5, none⟩ = some (.string x.t.f5) ∧ Z.cell? ⟨w.heap.size + 1, 6, none⟩ = some (.string x.t.f6))))
        (first
          | with_reducible exact EvA.cc (unhide E1)
          | with_reducible exact EvA.cc ((unhide E1).alB _ _ _)
          | with_reducible exact EvA.cc (unhide ES)
          | with_reducible exact EvA.cc (((unhide E0).alB _ _ _).dr)
          | with_reducible exact EvA.cc (unhide E2)
          | with_reducible exact EvA.cc (unhide E3))
        (first
          | (go_at_call 7; (first | with_reducible refine (toCap_ev (unhide E1) (unhide XK)).mono ?_ | with_reducible refine (toCap_ev ((unhide E1).alB _ _ _) (unhide XK)).mono ?_ | with_reducible refine (toCap_ev (((unhide E0).alB _ _ _).dr) (unhide XK)).mono ?_); rintro e w3 ⟨g1, g2, C, rfl, hAc, hgg, hE⟩; replace E1 := hide hE; clear hE)
          | (go_at_call 8; (first | with_reducible refine (toT_ev (unhide E1)).mono ?_ | with_reducible refine (toT_ev ((unhide E1).alB _ _ _)).mono ?_ | with_reducible refine (toT_ev (((unhide E0).alB _ _ _).dr)).mono ?_); rintro e w3 ⟨rfl, hE⟩; replace E1 := hide hE; clear hE)
          | (go_at_call 6; (first | with_reducible refine (sAtt_ev (unhide E1) (unhide XK) (unhide HLL)).mono ?_ | with_reducible refine (sAtt_ev ((unhide E1).alB _ _ _) (unhide XK) (unhide HLL)).mono ?_ | with_reducible refine (sAtt_ev (((unhide E0).alB _ _ _).dr) (unhide XK) (unhide HLL)).mono ?_); rintro e w3 ⟨o, p1, p2, k1, k2, hA, h1, h2, rfl, hb, hE⟩; replace E1 := hide hE; clear hE; have HA := hide (AnsO.mk hA hb.lo); have AB := hide hb; have H12 := hide (And.intro h1 h2); clear hA h1 h2 hb; (try (have HB := (unhide E1).box (List.mem_cons_self ..); obtain ⟨s0, s1, s2, f0, f1, f2, sz⟩ := HB; have E2 := hide ((unhide E1).put (.string o.I) (.slice p1 o.T.length k1) (.slice p2 o.G.length k2)))); (try (have E3 := hide ((unhide E1).alB (.string o.I) (.slice p1 o.T.length k1) (.slice p2 o.G.length k2))))))
    all_goals
      iterate 40 (try clear hHeld)
      (try go_wp2_with fail)
      have H1 := (unhide H12).1
      have H2 := (unhide H12).2
      go_meet
      case rel =>
        first
          | exact ⟨_, o, rfl, HA, hide (by rw [H1, H2]; exact (unhide E2).less)⟩
          | exact ⟨_, o, rfl, HA, hide (by rw [H1, H2]; exact (unhide E3).less)⟩
  obtain ⟨n6, o6, rfl, HA6, E6⟩ := hcut
  clear E0
  obtain ⟨⟨x0, x1, x2⟩, t0, t1, t2, t3, t4, t5, t6⟩ := (unhide E6).cc
  obtain ⟨xz, tz⟩ := (unhide E6).lt
  go_wp2_with fail
  refine (toCap_ev (unhide E6) (unhide XK)).mono ?_
  rintro e w7 ⟨g3, g4, C3, rfl, hA7, h34, hE⟩
  have A7 := hide hA7
  have L34 := hide h34
  have E8 := hide (hE.alB (.string x.id) (.slice (some ⟨g3, 0, none⟩) x.n1 x.n1) (.slice (some ⟨g4, 0, none⟩) x.G.length x.G.length))
  clear hA7 h34 hE E6 x0 x1 x2 t0 t1 t2 t3 t4 t5 t6 xz tz
  go_upto_region 10 with fail
  obtain ⟨W8, hW8⟩ : ∃ W', W' = World.alloc w7 (.cells #[.string x.id, .slice (some ⟨g3, 0, none⟩) x.n1 x.n1, .slice (some ⟨g4, 0, none⟩) x.G.length x.G.length] 34) := ⟨_, rfl⟩
  rw [← hW8] at E8 ⊢
  clear hW8
  obtain ⟨n7, hn7⟩ : ∃ n, n = w7.heap.size := ⟨_, rfl⟩
  rw [← hn7] at E8 ⊢
  clear hn7
  go_cut [8] from 13 (fun b wx => ∃ (n : Nat) (o : OwA), b = .pointer (some ⟨n, 0, none⟩) ∧ Hid (AnsO w x o) ∧ Hid (Above w [(g3, g4, C3)] [o6] o.b) ∧ Hid (EvA w x [(n, .string o.I, o.v1, o.v2), (n7, .string x.id, .slice (some ⟨g3, 0, none⟩) x.n1 x.n1, .slice (some ⟨g4, 0, none⟩) x.G.length x.G.length), (n6, .string o6.I, o6.v1, o6.v2)] [(g3, g4, C3)] [o, o6] [] wx))
  case first =>
    have E1 := hide (unhide E8).dr
    have ES := E8
    go_region_held3 (fun Z => (Z.cell? ⟨n7, 0, none⟩ = some (.string x.id) ∧ Z.cell? ⟨n7, 1, none⟩ = some (.slice (some ⟨g3, 0, none⟩) x.n1 x.n1) ∧ Z.cell? ⟨n7, 2, none⟩ = some (.slice (some ⟨g4, 0, none⟩) x.G.length x.G.length)) ∧ (Z.cell? ⟨w.heap.size + 1, 0, none⟩ = some (.string x.t.f0) ∧ Z.cell? ⟨w.heap.size + 1, 1, none⟩ = some (.int .i64 x.t.f1) ∧ Z.cell? ⟨w.heap.size + 1, 2, none⟩ = some (.string x.t.f2) ∧ Z.cell? ⟨w.heap.size + 1, 3, none⟩ = some (.int .i64 x.t.f3) ∧ Z.cell? ⟨w.heap.size + 1, 4, none⟩ = some (.int .i64 x.t.f4) ∧ Z.cell? ⟨w.heap.size + 1, 5, none⟩ = some (.string x.t.f5) ∧ Z.cell? ⟨w.heap.size + 1, 6, none⟩ = some (.string x.t.f6)))
        (first
          | with_reducible exact EvA.xt (unhide E1) (g := n7) (by simp)
          | with_reducible exact EvA.xt ((unhide E1).alB _ _ _) (g := n7) (by simp)
          | with_reducible exact EvA.xt (unhide ES) (g := n7) (by simp)
          | with_reducible exact EvA.xt (((unhide E8).alB _ _ _).dr) (g := n7) (by simp)
          | with_reducible exact EvA.xt (unhide E2) (g := n7) (by simp)
          | with_reducible exact EvA.xt (unhide E3) (g := n7) (by simp))
        (first
          | (go_at_call 8; (first | with_reducible refine (toT_ev (unhide E1)).mono ?_ | with_reducible refine (toT_ev ((unhide E1).alB _ _ _)).mono ?_ | with_reducible refine (toT_ev (((unhide E8).alB _ _ _).dr)).mono ?_); rintro e w3 ⟨rfl, hE⟩; replace E1 := hide hE; clear hE)
          | (go_at_call 9; (first | with_reducible refine (iAtt_ev (unhide E1) (unhide XK) (unhide HLL) (unhide HM) (unhide HG) (unhide HT)).mono ?_ | with_reducible refine (iAtt_ev ((unhide E1).alB _ _ _) (unhide XK) (unhide HLL) (unhide HM) (unhide HG) (unhide HT)).mono ?_ | with_reducible refine (iAtt_ev (((unhide E8).alB _ _ _).dr) (unhide XK) (unhide HLL) (unhide HM) (unhide HG) (unhide HT)).mono ?_); rintro e w3 ⟨o, p1, p2, k1, k2, hA, h1, h2, rfl, hb, hE⟩; replace E1 := hide hE; clear hE; have HA := hide (AnsO.mk hA hb.lo); have AB := hide hb; have H12 := hide (And.intro h1 h2); clear hA h1 h2 hb; (try (have HB := (unhide E1).box (List.mem_cons_self ..); obtain ⟨s0, s1, s2, f0, f1, f2, sz⟩ := HB; have E2 := hide ((unhide E1).put (.string o.I) (.slice p1 o.T.length k1) (.slice p2 o.G.length k2)))); (try (have E3 := hide ((unhide E1).alB (.string o.I) (.slice p1 o.T.length k1) (.slice p2 o.G.length k2))))))
    all_goals
      iterate 40 (try clear hHeld)
      (try go_wp2_with fail)
      have H1 := (unhide H12).1
      have H2 := (unhide H12).2
      go_meet
      case rel =>
        first
          | exact ⟨_, o, rfl, HA, AB, hide (by rw [H1, H2]; exact unhide E2)⟩
          | exact ⟨_, o, rfl, HA, AB, hide (by rw [H1, H2]; exact unhide E3)⟩
  obtain ⟨n8, o8, rfl, HA8, AB8, E10⟩ := hcut
  clear E8
  obtain ⟨a0, a1, a2, _, _, _, az⟩ := (unhide E10).box (g := n8) (u := .string o8.I) (v := o8.v1) (z := o8.v2) (by simp)
  obtain ⟨b0, b1, b2, _, _, _, bz⟩ := (unhide E10).box (g := n6) (u := .string o6.I) (v := o6.v1) (z := o6.v2) (by simp)
  go_wp2_with fail
  refine (eqO_ev (unhide E10) (o := o8) (o' := o6) (by simp) (by simp) (unhide HA8) (unhide HA6)).mono ?_
  rintro e w11 ⟨rfl, hE⟩
  have E11 := hide hE
  clear hE E10 a0 a1 a2 az b0 b1 b2 bz
  go_upto_region 13 with fail
  have E1 := hide (unhide E11).dr
  have ES := E11
  go_region_held3 (fun Z => (Z.cell? ⟨n7, 0, none⟩ = some (.string x.id) ∧ Z.cell? ⟨n7, 1, none⟩ = some (.slice (some ⟨g3, 0, none⟩) x.n1 x.n1) ∧ Z.cell? ⟨n7, 2, none⟩ = some (.slice (some ⟨g4, 0, none⟩) x.G.length x.G.length)) ∧ (Z.cell? ⟨w.heap.size, 0, none⟩ = some (.string x.id) ∧ Z.cell? ⟨w.heap.size, 1, none⟩ = some (.slice x.a1 x.n1 x.c1) ∧ Z.cell? ⟨w.heap.size, 2, none⟩ = some (.slice x.a2 x.G.length x.c2)))
      (first
        | with_reducible exact EvA.xc (unhide E1) (g := n7) (by simp)
        | with_reducible exact EvA.xc ((unhide E1).alB _ _ _) (g := n7) (by simp)
        | with_reducible exact EvA.xc (unhide ES) (g := n7) (by simp)
        | with_reducible exact EvA.xc (((unhide E11).alB _ _ _).dr) (g := n7) (by simp)
        | with_reducible exact EvA.xc (unhide E2) (g := n7) (by simp)
        | with_reducible exact EvA.xc (unhide E3) (g := n7) (by simp))
      (first
        | (go_at_call 7; (first | with_reducible refine (toCap_ev (unhide E1) (unhide XK)).mono ?_ | with_reducible refine (toCap_ev ((unhide E1).alB _ _ _) (unhide XK)).mono ?_ | with_reducible refine (toCap_ev (((unhide E11).alB _ _ _).dr) (unhide XK)).mono ?_); rintro e w3 ⟨g1, g2, C, rfl, hAc, hgg, hE⟩; replace E1 := hide hE; clear hE)
        | (go_at_call 10; (first | with_reducible refine (eqC_ev (unhide E1) (List.mem_cons_of_mem _ (List.mem_cons_self ..)) (List.mem_cons_self ..) (unhide XK) (unhide HLL)).mono ?_ | with_reducible refine (eqC_ev ((unhide E1).alB _ _ _) (List.mem_cons_of_mem _ (List.mem_cons_self ..)) (List.mem_cons_self ..) (unhide XK) (unhide HLL)).mono ?_ | with_reducible refine (eqC_ev (((unhide E11).alB _ _ _).dr) (List.mem_cons_of_mem _ (List.mem_cons_self ..)) (List.mem_cons_self ..) (unhide XK) (unhide HLL)).mono ?_); rintro e w3 ⟨rfl, hE⟩; replace E1 := hide hE; clear hE))
  iterate 40 (try clear hHeld)
  have E13 := E1
  clear E1 ES E11
  obtain ⟨c0, c1, c2, _, _, _, cz⟩ := (unhide E13).box (g := n7) (u := .string x.id) (v := .slice (some ⟨g3, 0, none⟩) x.n1 x.n1) (z := .slice (some ⟨g4, 0, none⟩) x.G.length x.G.length) (by simp)
  go_wp2_with fail
  clear c0 c1 c2 cz
  have K13 := hide ((unhide E13).cp (g3, g4, C3) (List.mem_cons_of_mem _ (List.mem_cons_self ..)))
  refine (markCapV x.id (.slice (some ⟨g3, 0, none⟩) x.n1 x.n1) (.slice (some ⟨g4, 0, none⟩) x.G.length x.G.length) x.n1 x.G.length _ (.inr ⟨g3, _, C3, rfl, (unhide K13).r1, by have := (unhide K13).z; simp only at this; omega⟩) (.inr ⟨g4, _, cellsOf x.G, rfl, (unhide K13).r2, by simp [cellsOf]⟩) (unhide XK).n1 (unhide XK).n2).mono ?_
  rintro e w16 ⟨rfl, _, _, hK⟩
  have E16 := hide ((unhide E13).marked hK (fun g e => by cases e; exact (unhide A7).lo) (fun g e => by cases e; exact Nat.le_trans (unhide A7).lo (Nat.le_of_lt (unhide L34))) (fun g e => by cases e; exact ⟨_, (unhide K13).r1⟩) (fun g e => by cases e; exact ⟨_, (unhide K13).r2⟩) [o8, o6] (fun o ho => by
    have h34 := unhide L34
    simp only [List.mem_cons, List.not_mem_nil, or_false] at ho
    rcases ho with rfl | rfl
    · have hc := (unhide AB8).c (g3, g4, C3) (List.mem_cons_self ..)
      simp only at hc
      refine ⟨by simp, fun g e => ?_, fun g e => ?_⟩
      · have := (((unhide E13).ow o (by simp)).o1.lt g e).1
        exact ⟨fun e2 => by simp [Value.ownBlock] at e2; omega, fun e2 => by simp [Value.ownBlock] at e2; omega⟩
      · have := (((unhide E13).ow o (by simp)).o2.lt g e).1
        exact ⟨fun e2 => by simp [Value.ownBlock] at e2; omega, fun e2 => by simp [Value.ownBlock] at e2; omega⟩
    · have h1 := ((unhide A7).o o (by simp))
      refine ⟨by simp, fun g e => ?_, fun g e => ?_⟩
      · have := h1.1 g e
        exact ⟨fun e2 => by simp [Value.ownBlock] at e2; omega, fun e2 => by simp [Value.ownBlock] at e2; omega⟩
      · have := h1.2 g e
        exact ⟨fun e2 => by simp [Value.ownBlock] at e2; omega, fun e2 => by simp [Value.ownBlock] at e2; omega⟩))
  clear hK K13 E13
  obtain ⟨kk, hkk⟩ : ∃ k : Int, k = ((1 + x.n1 * 7 : Nat) : Int) + (x.G.length : Int) := ⟨_, rfl⟩
  have nk : ¬ kk < 0 := by omega
  rw [← hkk]
  clear hkk
  obtain ⟨a0, a1, a2, _, _, _, az⟩ := (unhide E16).box (g := n8) (u := .string o8.I) (v := o8.v1) (z := o8.v2) (by simp)
  obtain ⟨b0, b1, b2, _, _, _, bz⟩ := (unhide E16).box (g := n6) (u := .string o6.I) (v := o6.v1) (z := o6.v2) (by simp)
  go_wp2_with fail
  refine (eqO_ev (unhide E16) (o := o8) (o' := o6) (by simp) (by simp) (unhide HA8) (unhide HA6)).mono ?_
  rintro e w17 ⟨rfl, hE⟩
  have E17 := hide hE
  clear hE E16 a0 a1 a2 az b0 b1 b2 bz
  obtain ⟨a0, a1, a2, _, _, _, az⟩ := (unhide E17).box (g := n8) (u := .string o8.I) (v := o8.v1) (z := o8.v2) (by simp)
  go_wp2_with fail
  have O8 := hide ((unhide E17).ow o8 (by simp))
  have Z8 := hide (unhide HA8).len
  refine (markCapV o8.I o8.v1 o8.v2 o8.T.length o8.G.length _ (own_rowV (unhide O8).o1) (own_rowV (unhide O8).o2) (by have := (unhide Z8).1; omega) (by have := (unhide Z8).2; omega)).mono ?_
  rintro e w20 ⟨rfl, hMT, hMB, hK⟩
  have MT := hide hMT
  have MB := hide hMB
  have E20 := hide ((unhide E17).marked hK (fun g e => Nat.le_trans (unhide HA8).b ((unhide O8).o1.lt g e).1) (fun g e => Nat.le_trans (unhide HA8).b ((unhide O8).o2.lt g e).1) (fun g e => own_cells_ty (unhide O8).o1 g e) (fun g e => own_cells_ty (unhide O8).o2 g e) [o6] (fun o ho => by
    simp only [List.mem_cons, List.not_mem_nil, or_false] at ho
    subst ho
    have h1 := (unhide AB8).o o (by simp)
    refine ⟨by simp, fun g e => ⟨fun e2 => ?_, fun e2 => ?_⟩, fun g e => ⟨fun e2 => ?_, fun e2 => ?_⟩⟩
    · have k1 := h1.1 g e
      have k2 := ((unhide O8).o1.lt g e2.symm).1
      omega
    · have k1 := h1.1 g e
      have k2 := ((unhide O8).o2.lt g e2.symm).1
      omega
    · have k1 := h1.2 g e
      have k2 := ((unhide O8).o1.lt g e2.symm).1
      omega
    · have k1 := h1.2 g e
      have k2 := ((unhide O8).o2.lt g e2.symm).1
      omega))
  clear hMT hMB hK E17 O8 a0 a1 a2 az
  obtain ⟨rs, hr1, hr2⟩ := marks_rs (unhide MT) (unhide MB)
  have HR := hide hr2
  replace E20 := hide ((unhide E20).withR hr1)
  clear hr1 hr2 MT MB
  obtain ⟨qq, hqq⟩ : ∃ k : Int, k = ((1 + o8.T.length * 7 : Nat) : Int) + (o8.G.length : Int) := ⟨_, rfl⟩
  have nq : ¬ qq < 0 := by omega
  have QQ := hide hqq.symm
  rw [← hqq]
  clear hqq
  obtain ⟨a0, a1, a2, _, _, _, az⟩ := (unhide E20).box (g := n8) (u := .string o8.I) (v := o8.v1) (z := o8.v2) (by simp)
  go_wp2_with fail
  have MK := hide (unhide HR _ (fun y hy => ((unhide E20).rw' y hy).1))
  refine (heldCapV o8.I o8.v1 o8.v2 o8.T.length o8.G.length _ (unhide MK).1 (unhide MK).2 (by have := (unhide Z8).1; omega) (by have := (unhide Z8).2; omega)).mono ?_
  rintro e w22 ⟨rfl, hb⟩
  have E22 := hide ((unhide E20).keep hb)
  clear hb E20 MK a0 a1 a2 az
  rw [unhide QQ]
  go_upto_region 27 with fail
  go_cut [12] from 13 (fun b wx => ∃ (n : Nat) (o : OwA), b = .pointer (some ⟨n, 0, none⟩) ∧ Hid (AnsO w x o) ∧ Hid (EvA w x [(n, .string o.I, o.v1, o.v2), (n8, .string o8.I, o8.v1, o8.v2), (n7, .string x.id, .slice (some ⟨g3, 0, none⟩) x.n1 x.n1, .slice (some ⟨g4, 0, none⟩) x.G.length x.G.length), (n6, .string o6.I, o6.v1, o6.v2)] [] [o, o6] rs wx))
  case first =>
    have E1 := hide (unhide E22).dr
    have ES := E22
    go_region_held3 (fun Z => ((Z.cell? ⟨w.heap.size, 0, none⟩ = some (.string x.id) ∧ Z.cell? ⟨w.heap.size, 1, none⟩ = some (.slice x.a1 x.n1 x.c1) ∧ Z.cell? ⟨w.heap.size, 2, none⟩ = some (.slice x.a2 x.G.length x.c2)) ∧ (Z.cell? ⟨w.heap.size + 1, 0, none⟩ = some (.string x.t.f0) ∧ Z.cell? ⟨w.heap.size + 1, 1, none⟩ = some (.int .i64 x.t.f1) ∧ Z.cell? ⟨w.heap.size + 1, 2, none⟩ = some (.string x.t.f2) ∧ Z.cell? ⟨w.heap.size + 1, 3, none⟩ = some (.int .i64 x.t.f3) ∧ Z.cell? ⟨w.heap.size + 1, 4, none⟩ = some (.int .i64 x.t.f4) ∧ Z.cell? ⟨w.heap.size + 1, 5, none⟩ = some (.string x.t.f5) ∧ Z.cell? ⟨w.heap.size + 1, 6, none⟩ = some (.string x.t.f6))))
        (first
          | with_reducible exact EvA.cc (unhide E1)
          | with_reducible exact EvA.cc ((unhide E1).alB _ _ _)
          | with_reducible exact EvA.cc (unhide ES)
          | with_reducible exact EvA.cc (((unhide E22).alB _ _ _).dr)
          | with_reducible exact EvA.cc (unhide E2)
          | with_reducible exact EvA.cc (unhide E3))
        (first
          | (go_at_call 7; (first | with_reducible refine (toCap_ev (unhide E1) (unhide XK)).mono ?_ | with_reducible refine (toCap_ev ((unhide E1).alB _ _ _) (unhide XK)).mono ?_ | with_reducible refine (toCap_ev (((unhide E22).alB _ _ _).dr) (unhide XK)).mono ?_); rintro e w3 ⟨g1, g2, C, rfl, hAc, hgg, hE⟩; replace E1 := hide hE; clear hE)
          | (go_at_call 8; (first | with_reducible refine (toT_ev (unhide E1)).mono ?_ | with_reducible refine (toT_ev ((unhide E1).alB _ _ _)).mono ?_ | with_reducible refine (toT_ev (((unhide E22).alB _ _ _).dr)).mono ?_); rintro e w3 ⟨rfl, hE⟩; replace E1 := hide hE; clear hE)
          | (go_at_call 9; (first | with_reducible refine (iAtt_ev (unhide E1) (unhide XK) (unhide HLL) (unhide HM) (unhide HG) (unhide HT)).mono ?_ | with_reducible refine (iAtt_ev ((unhide E1).alB _ _ _) (unhide XK) (unhide HLL) (unhide HM) (unhide HG) (unhide HT)).mono ?_ | with_reducible refine (iAtt_ev (((unhide E22).alB _ _ _).dr) (unhide XK) (unhide HLL) (unhide HM) (unhide HG) (unhide HT)).mono ?_); rintro e w3 ⟨o, p1, p2, k1, k2, hA, h1, h2, rfl, hb, hE⟩; replace E1 := hide hE; clear hE; have HA := hide (AnsO.mk hA hb.lo); have AB := hide hb; have H12 := hide (And.intro h1 h2); clear hA h1 h2 hb; (try (have HB := (unhide E1).box (List.mem_cons_self ..); obtain ⟨s0, s1, s2, f0, f1, f2, sz⟩ := HB; have E2 := hide ((unhide E1).put (.string o.I) (.slice p1 o.T.length k1) (.slice p2 o.G.length k2)))); (try (have E3 := hide ((unhide E1).alB (.string o.I) (.slice p1 o.T.length k1) (.slice p2 o.G.length k2))))))
    all_goals
      iterate 40 (try clear hHeld)
      (try go_wp2_with fail)
      have H1 := (unhide H12).1
      have H2 := (unhide H12).2
      go_meet
      case rel =>
        first
          | exact ⟨_, o, rfl, HA, hide (by rw [H1, H2]; exact (unhide E2).less)⟩
          | exact ⟨_, o, rfl, HA, hide (by rw [H1, H2]; exact (unhide E3).less)⟩
  obtain ⟨n9, o9, rfl, HA9, E27⟩ := hcut
  clear E22
  obtain ⟨d0, d1, d2, _, _, _, dz⟩ := (unhide E27).box (g := n9) (u := .string o9.I) (v := o9.v1) (z := o9.v2) (by simp)
  obtain ⟨b0, b1, b2, _, _, _, bz⟩ := (unhide E27).box (g := n6) (u := .string o6.I) (v := o6.v1) (z := o6.v2) (by simp)
  go_wp2_with fail
  refine (eqO_ev (unhide E27) (o := o9) (o' := o6) (by simp) (by simp) (unhide HA9) (unhide HA6)).mono ?_
  rintro e w28 ⟨rfl, hE⟩
  have E28 := hide hE
  clear hE E27 d0 d1 d2 dz b0 b1 b2 bz
  obtain ⟨a0, a1, a2, _, _, _, az⟩ := (unhide E28).box (g := n8) (u := .string o8.I) (v := o8.v1) (z := o8.v2) (by simp)
  go_wp2_with fail
  have MK := hide (unhide HR _ (fun y hy => ((unhide E28).rw' y hy).1))
  refine (heldCapV o8.I o8.v1 o8.v2 o8.T.length o8.G.length _ (unhide MK).1 (unhide MK).2 (by have := (unhide Z8).1; omega) (by have := (unhide Z8).2; omega)).mono ?_
  rintro e w31 ⟨rfl, hb⟩
  have E31 := hide ((unhide E28).keep hb)
  clear hb E28 MK a0 a1 a2 az
  rw [unhide QQ]
  go_wp2_with fail
  go_ret
  exact ⟨rfl, (unhide E31).B⟩
end Go.Proofs.YtkgneiideibfjaaGreatDoor.D
