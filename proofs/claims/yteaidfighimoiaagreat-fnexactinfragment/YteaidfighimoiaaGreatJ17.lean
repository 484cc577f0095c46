/- XTr, YTl, one behind the other. -/
import Derived.Test.YteaidfighimoiaaGreatJ16
/- impl.exprTreeOf: the whole tree. -/
namespace Go.Proofs.YteaidfighimoiaaGreat.V
open Go.RowKit Go.Maps

/-- What exprTreeOf makes of a node that is no ExprSet, and of its kids' trees. -/
def exV (x : ExprT) (vs : List Value) : Value :=
  if x.f0 = 1 then .iface 76 (.agg #[.int .i64 x.f2, .int .i64 x.f3, .string x.f4, .string x.f5]) else if x.f0 = 3 then .iface 112 (.agg #[.string x.f1])
  else if x.f0 = 4 then .iface 78 (.agg #[vs.getD 0 .nilIface, .string x.f1]) else if x.f0 = 5 ∨ x.f0 = 20 ∨ x.f0 = 21 then .iface 81 (.agg #[.int .i64 x.f0, vs.getD 0 .nilIface, .string x.f1])
  else if x.f0 = 6 ∨ x.f0 = 7 then .iface 83 (.agg #[.int .i64 x.f0, vs.getD 0 .nilIface]) else if x.f0 = 10 then .iface 93 (.agg #[vs.getD 0 .nilIface, vs.getD 1 .nilIface, vs.getD 2 .nilIface])
  else .iface 85 (.agg #[.int .i64 x.f0, vs.getD 0 .nilIface, vs.getD 1 .nilIface])
/-- A set's atoms lie in a block from lo on. -/
def SetV (w : World) (lo : Nat) (l : List AtomT) (sv : Value) : Prop := ∃ a cap, sv = .slice a l.length cap ∧ (l = [] ∨ ∃ b off, a = some ⟨b, off, none⟩ ∧ lo ≤ b ∧ b < w.heap.size ∧ AtomRow w b off l)
def NodeV (w : World) (lo : Nat) (x : ExprT) (xs : List ExprT) (vs : List Value) (v : Value) : Prop :=
  if x.f0 = 2 then ∃ sv, v = .iface 119 (.agg #[sv]) ∧ SetV w lo (xs.map aOf) sv else v = exV x vs
def ExAt (w : World) (lo : Nat) : Nat → ET → Value → Prop
  | 0, _, _ => False
  | r + 1, .node x ks, v => ∃ vs : List Value, vs.length = ks.length ∧ NodeV w lo x (ks.map ET.n) vs v ∧ ∀ i (h : i < ks.length) (h' : i < vs.length), ExAt w lo r ks[i] vs[i]
theorem AtomRow.keptY {lo : Nat} {w w' : World} {b off : Nat} {l : List AtomT} (h : AtomRow w b off l) (hk : KeptY lo w w') (h1 : lo ≤ b) (h2 : b < w.heap.size) : AtomRow w' b off l :=
  ⟨Nat.lt_of_lt_of_le h2 hk.size, fun i hi => ⟨hk.cell h1 h2 (h.c i hi).c0, hk.cell h1 h2 (h.c i hi).c1, hk.cell h1 h2 (h.c i hi).c2, hk.cell h1 h2 (h.c i hi).c3⟩⟩
theorem SetV.keptY {lo : Nat} {w w' : World} {l : List AtomT} {sv : Value} (h : SetV w lo l sv) (hk : KeptY lo w w') : SetV w' lo l sv := by
  obtain ⟨a, cap, e, h⟩ := h
  exact ⟨a, cap, e, h.imp_right fun ⟨b, off, e2, h1, h2, r⟩ => ⟨b, off, e2, h1, Nat.lt_of_lt_of_le h2 hk.size, r.keptY hk h1 h2⟩⟩
theorem SetV.low {lo lo' : Nat} {w : World} {l : List AtomT} {sv : Value} (h : SetV w lo l sv) (hl : lo' ≤ lo) : SetV w lo' l sv := by
  obtain ⟨a, cap, e, h⟩ := h
  exact ⟨a, cap, e, h.imp_right fun ⟨b, off, e2, h1, h2, r⟩ => ⟨b, off, e2, Nat.le_trans hl h1, h2, r⟩⟩
theorem NodeV.keptY {lo : Nat} {w w' : World} {x : ExprT} {xs : List ExprT} {vs : List Value} {v : Value} (h : NodeV w lo x xs vs v) (hk : KeptY lo w w') : NodeV w' lo x xs vs v := by
  unfold NodeV at *
  split at h
  · rename_i hx; rw [if_pos hx]; obtain ⟨sv, e, h⟩ := h; exact ⟨sv, e, h.keptY hk⟩
  · rename_i hx; rw [if_neg hx]; exact h
theorem NodeV.low {lo lo' : Nat} {w : World} {x : ExprT} {xs : List ExprT} {vs : List Value} {v : Value} (h : NodeV w lo x xs vs v) (hl : lo' ≤ lo) : NodeV w lo' x xs vs v := by
  unfold NodeV at *
  split at h
  · rename_i hx; rw [if_pos hx]; obtain ⟨sv, e, h⟩ := h; exact ⟨sv, e, h.low hl⟩
  · rename_i hx; rw [if_neg hx]; exact h
theorem ExAt.keptY : ∀ {r lo : Nat} {w w' : World} {t : ET} {v : Value}, ExAt w lo r t v → KeptY lo w w' → ExAt w' lo r t v
  | 0, _, _, _, .node _ _, _, h, _ => h
  | _ + 1, _, _, _, .node _ _, _, ⟨vs, h1, h2, h3⟩, hk => ⟨vs, h1, h2.keptY hk, fun i h h' => (h3 i h h').keptY hk⟩
theorem ExAt.low : ∀ {r lo lo' : Nat} {w : World} {t : ET} {v : Value}, ExAt w lo r t v → lo' ≤ lo → ExAt w lo' r t v
  | 0, _, _, _, .node _ _, _, h, _ => h
  | _ + 1, _, _, _, .node _ _, _, ⟨vs, h1, h2, h3⟩, hl => ⟨vs, h1, h2.low hl, fun i h h' => (h3 i h h').low hl⟩
theorem set_own {w : World} {base len : Nat} {v : Value} {l : List AtomT} (h : w.ownsRow base 31 4 v len (atomsV l)) : SetV w base l v := by
  obtain ⟨a, cap, e⟩ := own_sl h
  subst e
  have hl : len = l.length := by have := h.1; rw [atomsV_len] at this; omega
  subst hl
  refine ⟨a, cap, rfl, ?_⟩
  rcases (sla_own h).2 with h0 | ⟨b, off, e, r⟩
  · exact .inl h0
  · right
    refine ⟨b, off, e, ?_, r.z, r⟩
    subst e
    exact (h.lt b rfl).1

def TreeEnd2 (w' : World) (lo : Nat) (x : ExprT) (xs : List ExprT) (vs : List Value) (e : Ending) : Prop :=
  ((x.f0 = 2 → ∀ y ∈ xs, y.f0 = 1) ∧ ∃ v, e = .returned (.tuple #[v, .bool true]) ∧ Tag x v ∧ NodeV w' lo x xs vs v) ∨ ((¬ (x.f0 = 2 → ∀ y ∈ xs, y.f0 = 1)) ∧ e = .returned (.tuple #[.nilIface, .bool false]))
theorem TreeEnd2.of {w' : World} {lo : Nat} {x : ExprT} {xs : List ExprT} {vs : List Value} {v : Value} (h2 : x.f0 ≠ 2) (hv : v = exV x vs) (ht : Tag x v) : TreeEnd2 w' lo x xs vs (.returned (.tuple #[v, .bool true])) :=
  .inl ⟨fun h => absurd h h2, v, rfl, ht, by unfold NodeV; rw [if_neg h2]; exact hv⟩
set_option maxRecDepth 20000 in
set_option maxHeartbeats 1000000 in
theorem exprTreeOf2_plain (x : ExprT) (a : Option Addr) (len cap : Nat) (xs : List ExprT) (vs : List Value) (w : World) (hk : x.f0 = 1 ∨ x.f0 = 3 ∨ x.f0 = 2) (hl : len ≤ 1000) (hs : SlI w a len vs) (ht : Tags xs vs) :
    Calls Tryz.prog 58 #[eAgg x, .slice a len cap] w fun e w' => TreeEnd2 w' w.heap.size x xs vs e ∧ Below w.heap.size w w' := by
  obtain ⟨f0, f1, f2, f3, f4, f5, f6⟩ := x
  rcases hk with rfl | rfl | rfl
  · go_enter Tryz.func58, Tryz.ntmps58
    go_wp2_with fail
    go_ret2
    exact ⟨TreeEnd2.of (by simp) (by simp [exV]) (.inl ⟨rfl, rfl⟩), bAl (Below.refl _ _) _⟩
  · go_enter Tryz.func58, Tryz.ntmps58
    go_wp2_with fail
    go_ret2
    exact ⟨TreeEnd2.of (by simp) (by simp [exV]) (.inr ⟨by simp, _, .inl rfl⟩), bAl (Below.refl _ _) _⟩
  · have q := hide (fun w hs => setExprOf_any a len cap xs vs w hl hs ht)
    have HS := hide hs
    clear hs ht
    go_enter Tryz.func58, Tryz.ntmps58
    go_wp2_with fail
    refine (unhide q _ ((unhide HS).keep (bAl (Below.refl _ _) _))).mono ?_
    rintro e w1 ⟨(⟨h1, v, rfl, ho⟩ | ⟨h1, rfl⟩), hb1⟩
    · have H1 := hide h1
      have HSV := hide ((set_own ho).low (show w.heap.size ≤ _ by simp))
      clear h1 q HS ho
      go_wp2_with fail
      go_ret2
      exact ⟨.inl ⟨fun _ => unhide H1, _, rfl, .inr ⟨by simp, _, .inr (.inr (.inr (.inr (.inr (.inr rfl)))))⟩, by unfold NodeV; rw [if_pos rfl]; exact ⟨_, rfl, unhide HSV⟩⟩, bTr (bAl (Below.refl _ _) _) hb1⟩
    · have H1 := hide h1
      clear h1 q HS
      go_wp2_with fail
      go_ret2
      exact ⟨.inr ⟨fun h => unhide H1 (h rfl), rfl⟩, bTr (bAl (Below.refl _ _) _) hb1⟩

set_option maxRecDepth 20000 in
set_option maxHeartbeats 1000000 in
theorem exprTreeOf2_get (x : ExprT) (b off : Nat) (len cap : Nat) (xs : List ExprT) (vs : List Value) (T : TypeId) (u : Value) (w : World) (v0 : vs.getD 0 .nilIface = .iface T u) (hk : x.f0 = 4 ∨ x.f0 = 5 ∨ x.f0 = 20 ∨ x.f0 = 21 ∨ x.f0 = 6 ∨ x.f0 = 7) (h1 : 1 ≤ len) (hz : b < w.heap.size) (hs : w.cell? ⟨b, off, none⟩ = some (.iface T u)) :
    Calls Tryz.prog 58 #[eAgg x, .slice (some ⟨b, off, none⟩) len cap] w fun e w' => TreeEnd2 w' w.heap.size x xs vs e ∧ Below w.heap.size w w' := by
  obtain ⟨f0, f1, f2, f3, f4, f5, f6⟩ := x
  have c0 : (w.alloc (.cells #[.int .i64 f0, .string f1, .int .i64 f2, .int .i64 f3, .string f4, .string f5, .int .i64 f6] 44)).cell? ⟨b, off, none⟩ = some (.iface T u) := cellB (bAl (Below.refl _ _) _) hz hs
  have hp : 0 < len := h1
  rw [List.getD_eq_getElem?_getD] at v0
  have VV := hide v0
  clear hs h1 v0
  rcases hk with rfl | rfl | rfl | rfl | rfl | rfl
  all_goals go_enter Tryz.func58, Tryz.ntmps58
  all_goals go_wp2_with fail
  all_goals go_quiet (fail)
  all_goals go_wp2_with fail
  all_goals go_ret2
  · exact ⟨TreeEnd2.of (by simp) (by simp [exV, unhide VV]) (.inr ⟨by simp, _, .inr (.inl rfl)⟩), bDrN (bAl (Below.refl _ _) _) _⟩
  · exact ⟨TreeEnd2.of (by simp) (by simp [exV, unhide VV]) (.inr ⟨by simp, _, .inr (.inr (.inl rfl))⟩), bDrN (bAl (Below.refl _ _) _) _⟩
  · exact ⟨TreeEnd2.of (by simp) (by simp [exV, unhide VV]) (.inr ⟨by simp, _, .inr (.inr (.inl rfl))⟩), bDrN (bAl (Below.refl _ _) _) _⟩
  · exact ⟨TreeEnd2.of (by simp) (by simp [exV, unhide VV]) (.inr ⟨by simp, _, .inr (.inr (.inl rfl))⟩), bDrN (bAl (Below.refl _ _) _) _⟩
  · exact ⟨TreeEnd2.of (by simp) (by simp [exV, unhide VV]) (.inr ⟨by simp, _, .inr (.inr (.inr (.inl rfl)))⟩), bDrN (bAl (Below.refl _ _) _) _⟩
  · exact ⟨TreeEnd2.of (by simp) (by simp [exV, unhide VV]) (.inr ⟨by simp, _, .inr (.inr (.inr (.inl rfl)))⟩), bDrN (bAl (Below.refl _ _) _) _⟩

set_option maxRecDepth 20000 in
set_option maxHeartbeats 1000000 in
theorem exprTreeOf2_if (x : ExprT) (b off : Nat) (len cap : Nat) (xs : List ExprT) (vs : List Value) (T0 T1 T2 : TypeId) (u0 u1 u2 : Value) (w : World) (v0 : vs.getD 0 .nilIface = .iface T0 u0) (v1 : vs.getD 1 .nilIface = .iface T1 u1) (v2 : vs.getD 2 .nilIface = .iface T2 u2) (hk : x.f0 = 10) (hl : len ≤ 1000) (h1 : 3 ≤ len) (hz : b < w.heap.size) (hs0 : w.cell? ⟨b, off, none⟩ = some (.iface T0 u0)) (hs1 : w.cell? ⟨b, off + 1, none⟩ = some (.iface T1 u1)) (hs2 : w.cell? ⟨b, off + 2, none⟩ = some (.iface T2 u2)) :
    Calls Tryz.prog 58 #[eAgg x, .slice (some ⟨b, off, none⟩) len cap] w fun e w' => TreeEnd2 w' w.heap.size x xs vs e ∧ Below w.heap.size w w' := by
  obtain ⟨f0, f1, f2, f3, f4, f5, f6⟩ := x
  simp only at hk
  subst hk
  have c0 : (w.alloc (.cells #[.int .i64 10, .string f1, .int .i64 f2, .int .i64 f3, .string f4, .string f5, .int .i64 f6] 44)).cell? ⟨b, off, none⟩ = some (.iface T0 u0) := cellB (bAl (Below.refl _ _) _) hz hs0
  have c1 : (w.alloc (.cells #[.int .i64 10, .string f1, .int .i64 f2, .int .i64 f3, .string f4, .string f5, .int .i64 f6] 44)).cell? ⟨b, off + 1, none⟩ = some (.iface T1 u1) := cellB (bAl (Below.refl _ _) _) hz hs1
  have c2 : (w.alloc (.cells #[.int .i64 10, .string f1, .int .i64 f2, .int .i64 f3, .string f4, .string f5, .int .i64 f6] 44)).cell? ⟨b, off + 2, none⟩ = some (.iface T2 u2) := cellB (bAl (Below.refl _ _) _) hz hs2
  have hp0 : 0 < len := by omega
  have hp1 : 1 < len := by omega
  have hp2 : 2 < len := by omega
  rw [List.getD_eq_getElem?_getD] at v0 v1 v2
  have VV := hide (And.intro v0 (And.intro v1 v2))
  clear hs0 hs1 hs2 h1 v0 v1 v2
  go_enter Tryz.func58, Tryz.ntmps58
  go_wp2_with fail
  go_quiet (fail)
  go_wp2_with fail
  go_ret2
  exact ⟨TreeEnd2.of (by simp) (by simp [exV, unhide VV]) (.inr ⟨by simp, _, .inr (.inr (.inr (.inr (.inl rfl))))⟩), bDrN (bAl (Below.refl _ _) _) _⟩

set_option maxRecDepth 20000 in
set_option maxHeartbeats 1000000 in
theorem exprTreeOf2_pair (x : ExprT) (b off : Nat) (len cap : Nat) (xs : List ExprT) (vs : List Value) (T0 T1 : TypeId) (u0 u1 : Value) (w : World) (v0 : vs.getD 0 .nilIface = .iface T0 u0) (v1 : vs.getD 1 .nilIface = .iface T1 u1) (hk : 8 ≤ x.f0 ∧ x.f0 ≤ 19 ∧ x.f0 ≠ 10) (hl : len ≤ 1000) (h1 : 2 ≤ len) (hz : b < w.heap.size) (hs0 : w.cell? ⟨b, off, none⟩ = some (.iface T0 u0)) (hs1 : w.cell? ⟨b, off + 1, none⟩ = some (.iface T1 u1)) :
    Calls Tryz.prog 58 #[eAgg x, .slice (some ⟨b, off, none⟩) len cap] w fun e w' => TreeEnd2 w' w.heap.size x xs vs e ∧ Below w.heap.size w w' := by
  obtain ⟨f0, f1, f2, f3, f4, f5, f6⟩ := x
  simp only at hk
  have c0 : (w.alloc (.cells #[.int .i64 f0, .string f1, .int .i64 f2, .int .i64 f3, .string f4, .string f5, .int .i64 f6] 44)).cell? ⟨b, off, none⟩ = some (.iface T0 u0) := cellB (bAl (Below.refl _ _) _) hz hs0
  have c1 : (w.alloc (.cells #[.int .i64 f0, .string f1, .int .i64 f2, .int .i64 f3, .string f4, .string f5, .int .i64 f6] 44)).cell? ⟨b, off + 1, none⟩ = some (.iface T1 u1) := cellB (bAl (Below.refl _ _) _) hz hs1
  have hp0 : 0 < len := by omega
  have hp1 : 1 < len := by omega
  have n1 : ¬ f0 = 1 := by omega
  have n2 : ¬ f0 = 2 := by omega
  have n3 : ¬ f0 = 3 := by omega
  have n4 : ¬ f0 = 4 := by omega
  have n5 : ¬ f0 = 5 := by omega
  have n6 : ¬ f0 = 6 := by omega
  have n7 : ¬ f0 = 7 := by omega
  have n10 : ¬ f0 = 10 := by omega
  have n20 : ¬ f0 = 20 := by omega
  have n21 : ¬ f0 = 21 := by omega
  rw [List.getD_eq_getElem?_getD] at v0 v1
  have VV := hide (And.intro v0 v1)
  clear hs0 hs1 h1 hk v0 v1
  go_enter Tryz.func58, Tryz.ntmps58
  go_wp2_with fail
  go_quiet (fail)
  go_wp2_with fail
  go_ret2
  exact ⟨TreeEnd2.of n2 (by simp [exV, unhide VV, n1, n3, n4, n5, n6, n7, n10, n20, n21]) (.inr ⟨n1, _, .inr (.inr (.inr (.inr (.inr (.inl rfl)))))⟩), bDrN (bAl (Below.refl _ _) _) _⟩

theorem exprTreeOf2_any (x : ExprT) (a : Option Addr) (len cap : Nat) (xs : List ExprT) (vs : List Value) (w : World) (hn : NodeP x) (h6 : x.f6 = (xs.length : Int)) (hs : SlI w a len vs) (ht : Tags xs vs) :
    Calls Tryz.prog 58 #[eAgg x, .slice a len cap] w fun e w' => TreeEnd2 w' w.heap.size x xs vs e ∧ Below w.heap.size w w' := by
  have hb := hn.kids
  have el : len = xs.length := hs.1.trans ht.1
  have hl : len ≤ 1000 := by omega
  by_cases hk : x.f0 = 1 ∨ x.f0 = 3 ∨ x.f0 = 2
  · exact exprTreeOf2_plain x a len cap xs vs w hk hl hs ht
  have hk6 : x.f6 = ari x.f0 := by
    have := hn.2.1
    unfold kidP at this
    rwa [if_neg (by omega)] at this
  have hne := hn.1
  have get : ∀ i, i < len → ∃ b off, a = some ⟨b, off, none⟩ ∧ IfRow w b off vs := fun i hi => hs.at hi
  have cel : ∀ {b off}, IfRow w b off vs → ∀ i, i < len → ∃ T u, w.cell? ⟨b, off + i, none⟩ = some (.iface T u) ∧ vs.getD i .nilIface = .iface T u := by
    intro b off hr i hi
    have h1 : i < vs.length := by rw [ht.1]; omega
    obtain ⟨T, u, e⟩ := (ht.2 i (by omega) h1).if_
    exact ⟨T, u, by rw [hr.c i h1, e], by rw [List.getD_eq_getElem?_getD, List.getElem?_eq_getElem h1, e]; rfl⟩
  by_cases hg : x.f0 = 4 ∨ x.f0 = 5 ∨ x.f0 = 20 ∨ x.f0 = 21 ∨ x.f0 = 6 ∨ x.f0 = 7
  · have e1 : ari x.f0 = 1 := by unfold ari; rw [if_neg (by omega), if_neg (by omega), if_pos (by omega)]
    obtain ⟨b, off, rfl, hr⟩ := get 0 (by omega)
    obtain ⟨T, u, c, v0⟩ := cel hr 0 (by omega)
    exact exprTreeOf2_get x b off len cap xs vs T u w v0 hg (by omega) hr.z c
  by_cases hi : x.f0 = 10
  · have e1 : ari x.f0 = 3 := by rw [hi]; rfl
    obtain ⟨b, off, rfl, hr⟩ := get 0 (by omega)
    obtain ⟨T0, u0, c0, v0⟩ := cel hr 0 (by omega)
    obtain ⟨T1, u1, c1, v1⟩ := cel hr 1 (by omega)
    obtain ⟨T2, u2, c2, v2⟩ := cel hr 2 (by omega)
    exact exprTreeOf2_if x b off len cap xs vs T0 T1 T2 u0 u1 u2 w v0 v1 v2 hi hl (by omega) hr.z c0 c1 c2
  have h8 : 8 ≤ x.f0 ∧ x.f0 ≤ 19 := by
    unfold ari at hne
    rw [if_neg (by omega), if_neg (by omega), if_neg (by omega), if_neg (by omega)] at hne
    by_cases h : 8 ≤ x.f0 ∧ x.f0 ≤ 19
    · exact h
    · rw [if_neg h] at hne; exact absurd rfl hne
  have e1 : ari x.f0 = 2 := by unfold ari; rw [if_neg (by omega), if_neg (by omega), if_neg (by omega), if_neg (by omega), if_pos h8]
  obtain ⟨b, off, rfl, hr⟩ := get 0 (by omega)
  obtain ⟨T0, u0, c0, v0⟩ := cel hr 0 (by omega)
  obtain ⟨T1, u1, c1, v1⟩ := cel hr 1 (by omega)
  exact exprTreeOf2_pair x b off len cap xs vs T0 T1 u0 u1 w v0 v1 ⟨h8.1, h8.2, hi⟩ hl (by omega) hr.z c0 c1
end Go.Proofs.YteaidfighimoiaaGreat.V
/- spec.l10Take: the walk. -/
namespace Go.Proofs.YteaidfighimoiaaGreat.V
open Go.RowKit Go.Maps

def TakeEnd (w' : World) (lo r : Nat) (l : List ExprT) (at_ : Nat) (e : Ending) : Prop :=
  (takeT r (l.drop at_) = none ∧ e = .returned (.tuple #[agg8 zX (.slice none 0 0), .int .i64 (-1)])) ∨
  ∃ t at' s, takeT r (l.drop at_) = some (t, l.drop at') ∧ at' ≤ l.length ∧ e = .returned (.tuple #[agg8 t.n s, .int .i64 (at' : Int)]) ∧ TrAt r w' lo s t
theorem info_l10E : (Tryz.prog.info? 47).map (fun i => (i.zero, i.size, i.bytes)) = some (some (.agg #[.int .i64 0, .string ByteArray.empty, .int .i64 0, .int .i64 0, .string ByteArray.empty, .string ByteArray.empty, .int .i64 0, .slice none 0 0]), 8, 104) := by kernel_rfl

set_option maxRecDepth 20000 in
set_option maxHeartbeats 2000000 in
theorem l10Take_no (r : Nat) (a : Option Addr) (len cap : Nat) (l : List ExprT) (at_ : Nat) (deep : Int) (w : World) (hd : deep + r = 13) (hr : r ≤ 12) (hs : SlExpr w a len l) (ha : at_ ≤ len)
    (hn : at_ = len ∨ r = 0 ∨ ∃ h : at_ < l.length, l[at_].f6 < 0 ∨ 10 < l[at_].f6) :
    Calls Tryz.prog 28 #[.slice a len cap, .int .i64 at_, .int .i64 deep] w fun e w' => e = .returned (.tuple #[agg8 zX (.slice none 0 0), .int .i64 (-1)]) ∧ Below w.heap.size w w' := by
  by_cases he : at_ = len
  · have d1 : (len : Int) ≤ (at_ : Int) := by omega
    clear hs hn he
    go_enter Tryz.func28, Tryz.ntmps28
    go_wp2_with fail
    refine bodyPost_ret (v := .tuple #[agg8 zX (.slice none 0 0), .int .i64 (-1)]) (by simp [results, Tryz.results28, go_sem]) rfl ⟨rfl, bAl (Below.refl _ _) _⟩
  have d1 : ¬ (len : Int) ≤ (at_ : Int) := by omega
  by_cases h0 : r = 0
  · have d2 : 12 < deep := by omega
    clear hs hn he
    go_enter Tryz.func28, Tryz.ntmps28
    go_wp2_with fail
    refine bodyPost_ret (v := .tuple #[agg8 zX (.slice none 0 0), .int .i64 (-1)]) (by simp [results, Tryz.results28, go_sem]) rfl ⟨rfl, bAl (Below.refl _ _) _⟩
  have d2 : ¬ 12 < deep := by omega
  have hlt : at_ < len := by omega
  obtain ⟨h, hk⟩ := (hn.resolve_left he).resolve_left h0
  obtain ⟨b, off, rfl, hrow⟩ := hs.at hlt
  have R1 := hrow.keep (bAl (Below.refl _ _) (.cells (row8 zX (.slice none 0 0)) 47))
  have c6 := R1.c6 at_ h
  clear hs hn he R1 hrow
  generalize l[at_] = x at *
  generalize hx : x.f6 = N at *
  clear hx
  by_cases hk1 : N < 0
  · clear hk
    go_enter Tryz.func28, Tryz.ntmps28
    go_wp2_with fail
    refine bodyPost_ret (v := .tuple #[agg8 zX (.slice none 0 0), .int .i64 (-1)]) (by simp [results, Tryz.results28, go_sem]) rfl ⟨rfl, bAl (Below.refl _ _) _⟩
  · replace hk := hk.resolve_left hk1
    go_enter Tryz.func28, Tryz.ntmps28
    go_wp2_with fail
    refine bodyPost_ret (v := .tuple #[agg8 zX (.slice none 0 0), .int .i64 (-1)]) (by simp [results, Tryz.results28, go_sem]) rfl ⟨rfl, bAl (Below.refl _ _) _⟩
end Go.Proofs.YteaidfighimoiaaGreat.V
