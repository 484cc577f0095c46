/- impl.exprTreeOf. -/
import Derived.Test.YtbgakkbniekccaaYTre
import Derived.Deep.RegionHeld3
import Derived.BigQuiet
namespace Go.Proofs.Ytbgakkbniekccaa.V
open Go.RowKit Go.Maps

def TreeEnd (x : ExprT) (xs : List ExprT) (e : Ending) : Prop :=
  ((x.f0 = 2 → ∀ y ∈ xs, y.f0 = 1) ∧ ∃ v, e = .returned (.tuple #[v, .bool true]) ∧ Tag x v) ∨ ((¬ (x.f0 = 2 → ∀ y ∈ xs, y.f0 = 1)) ∧ e = .returned (.tuple #[.nilIface, .bool false]))
theorem bDrN {B : Nat} {w w' : World} (h : Below B w w') (k : Nat) : Below B w (w'.drewN k) := ⟨h.os, h.tape, h.output, h.size, h.block⟩
theorem TreeEnd.lit {x : ExprT} {xs : List ExprT} (h : x.f0 = 1) : TreeEnd x xs (.returned (.tuple #[.iface 102 (.agg #[.int .i64 x.f2, .int .i64 x.f3, .string x.f4, .string x.f5]), .bool true])) :=
  .inl ⟨fun h2 => by omega, _, rfl, .inl ⟨h, rfl⟩⟩

set_option maxRecDepth 20000 in
set_option maxHeartbeats 1000000 in
theorem exprTreeOf_plain (x : ExprT) (a : Option Addr) (len cap : Nat) (xs : List ExprT) (vs : List Value) (w : World) (hk : x.f0 = 1 ∨ x.f0 = 3 ∨ x.f0 = 2) (hl : len ≤ 1000) (hs : SlI w a len vs) (ht : Tags xs vs) :
    Calls Try.prog 63 #[eAgg x, .slice a len cap] w fun e w' => TreeEnd x xs e ∧ Below w.heap.size w w' := by
  obtain ⟨f0, f1, f2, f3, f4, f5, f6⟩ := x
  rcases hk with rfl | rfl | rfl
  · go_enter Try.func63, Try.ntmps63
    go_wp2_with fail
    go_ret2
    exact ⟨TreeEnd.lit rfl, bAl (Below.refl _ _) _⟩
  · go_enter Try.func63, Try.ntmps63
    go_wp2_with fail
    go_ret2
    exact ⟨.inl ⟨fun h => by simp at h, _, rfl, .inr ⟨by simp, _, .inl rfl⟩⟩, bAl (Below.refl _ _) _⟩
  · have q := hide (fun w hs => setExprOf_any a len cap xs vs w hl hs ht)
    have HS := hide hs
    clear hs ht
    go_enter Try.func63, Try.ntmps63
    go_wp2_with fail
    refine (unhide q _ ((unhide HS).keep (bAl (Below.refl _ _) _))).mono ?_
    rintro e w1 ⟨(⟨h1, v, rfl, ho⟩ | ⟨h1, rfl⟩), hb1⟩
    · have H1 := hide h1
      clear h1 q HS
      go_wp2_with fail
      go_ret2
      exact ⟨.inl ⟨fun _ => unhide H1, _, rfl, .inr ⟨by simp, _, .inr (.inr (.inr (.inr (.inr (.inr rfl)))))⟩⟩, bTr (bAl (Below.refl _ _) _) hb1⟩
    · have H1 := hide h1
      clear h1 q HS
      go_wp2_with fail
      go_ret2
      exact ⟨.inr ⟨fun h => unhide H1 (h rfl), rfl⟩, bTr (bAl (Below.refl _ _) _) hb1⟩

theorem TreeEnd.one {x : ExprT} {xs : List ExprT} {v : Value} (h1 : x.f0 ≠ 1) (h2 : x.f0 ≠ 2) (h : ∃ u, v = .iface 104 u ∨ v = .iface 107 u ∨ v = .iface 109 u ∨ v = .iface 111 u ∨ v = .iface 113 u ∨ v = .iface 115 u ∨ v = .iface 121 u) : TreeEnd x xs (.returned (.tuple #[v, .bool true])) :=
  .inl ⟨fun h' => absurd h' h2, v, rfl, .inr ⟨h1, h⟩⟩

set_option maxRecDepth 20000 in
set_option maxHeartbeats 1000000 in
theorem exprTreeOf_get (x : ExprT) (b off : Nat) (len cap : Nat) (xs : List ExprT) (T : TypeId) (u : Value) (w : World) (hk : x.f0 = 4 ∨ x.f0 = 5 ∨ x.f0 = 20 ∨ x.f0 = 21 ∨ x.f0 = 6 ∨ x.f0 = 7) (h1 : 1 ≤ len) (hz : b < w.heap.size) (hs : w.cell? ⟨b, off, none⟩ = some (.iface T u)) :
    Calls Try.prog 63 #[eAgg x, .slice (some ⟨b, off, none⟩) len cap] w fun e w' => TreeEnd x xs e ∧ Below w.heap.size w w' := by
  obtain ⟨f0, f1, f2, f3, f4, f5, f6⟩ := x
  have c0 : (w.alloc (.cells #[.int .i64 f0, .string f1, .int .i64 f2, .int .i64 f3, .string f4, .string f5, .int .i64 f6] 55)).cell? ⟨b, off, none⟩ = some (.iface T u) := cellB (bAl (Below.refl _ _) _) hz hs
  have hp : 0 < len := h1
  clear hs h1
  rcases hk with rfl | rfl | rfl | rfl | rfl | rfl
  all_goals go_enter Try.func63, Try.ntmps63
  all_goals go_wp2_with fail
  all_goals go_quiet (fail)
  all_goals go_wp2_with fail
  all_goals go_ret2
  · exact ⟨TreeEnd.one (by simp) (by simp) ⟨_, .inr (.inl rfl)⟩, bDrN (bAl (Below.refl _ _) _) _⟩
  · exact ⟨TreeEnd.one (by simp) (by simp) ⟨_, .inr (.inr (.inl rfl))⟩, bDrN (bAl (Below.refl _ _) _) _⟩
  · exact ⟨TreeEnd.one (by simp) (by simp) ⟨_, .inr (.inr (.inl rfl))⟩, bDrN (bAl (Below.refl _ _) _) _⟩
  · exact ⟨TreeEnd.one (by simp) (by simp) ⟨_, .inr (.inr (.inl rfl))⟩, bDrN (bAl (Below.refl _ _) _) _⟩
  · exact ⟨TreeEnd.one (by simp) (by simp) ⟨_, .inr (.inr (.inr (.inl rfl)))⟩, bDrN (bAl (Below.refl _ _) _) _⟩
  · exact ⟨TreeEnd.one (by simp) (by simp) ⟨_, .inr (.inr (.inr (.inl rfl)))⟩, bDrN (bAl (Below.refl _ _) _) _⟩

set_option maxRecDepth 20000 in
set_option maxHeartbeats 1000000 in
theorem exprTreeOf_if (x : ExprT) (b off : Nat) (len cap : Nat) (xs : List ExprT) (T0 T1 T2 : TypeId) (u0 u1 u2 : Value) (w : World) (hk : x.f0 = 10) (hl : len ≤ 1000) (h1 : 3 ≤ len) (hz : b < w.heap.size) (hs0 : w.cell? ⟨b, off, none⟩ = some (.iface T0 u0)) (hs1 : w.cell? ⟨b, off + 1, none⟩ = some (.iface T1 u1)) (hs2 : w.cell? ⟨b, off + 2, none⟩ = some (.iface T2 u2)) :
    Calls Try.prog 63 #[eAgg x, .slice (some ⟨b, off, none⟩) len cap] w fun e w' => TreeEnd x xs e ∧ Below w.heap.size w w' := by
  obtain ⟨f0, f1, f2, f3, f4, f5, f6⟩ := x
  simp only at hk
  subst hk
  have c0 : (w.alloc (.cells #[.int .i64 10, .string f1, .int .i64 f2, .int .i64 f3, .string f4, .string f5, .int .i64 f6] 55)).cell? ⟨b, off, none⟩ = some (.iface T0 u0) := cellB (bAl (Below.refl _ _) _) hz hs0
  have c1 : (w.alloc (.cells #[.int .i64 10, .string f1, .int .i64 f2, .int .i64 f3, .string f4, .string f5, .int .i64 f6] 55)).cell? ⟨b, off + 1, none⟩ = some (.iface T1 u1) := cellB (bAl (Below.refl _ _) _) hz hs1
  have c2 : (w.alloc (.cells #[.int .i64 10, .string f1, .int .i64 f2, .int .i64 f3, .string f4, .string f5, .int .i64 f6] 55)).cell? ⟨b, off + 2, none⟩ = some (.iface T2 u2) := cellB (bAl (Below.refl _ _) _) hz hs2
  have hp0 : 0 < len := by omega
  have hp1 : 1 < len := by omega
  have hp2 : 2 < len := by omega
  clear hs0 hs1 hs2 h1
  go_enter Try.func63, Try.ntmps63
  go_wp2_with fail
  go_quiet (fail)
  go_wp2_with fail
  go_ret2
  exact ⟨TreeEnd.one (by simp) (by simp) ⟨_, .inr (.inr (.inr (.inr (.inl rfl))))⟩, bDrN (bAl (Below.refl _ _) _) _⟩

set_option maxRecDepth 20000 in
set_option maxHeartbeats 1000000 in
theorem exprTreeOf_pair (x : ExprT) (b off : Nat) (len cap : Nat) (xs : List ExprT) (T0 T1 : TypeId) (u0 u1 : Value) (w : World) (hk : 8 ≤ x.f0 ∧ x.f0 ≤ 19 ∧ x.f0 ≠ 10) (hl : len ≤ 1000) (h1 : 2 ≤ len) (hz : b < w.heap.size) (hs0 : w.cell? ⟨b, off, none⟩ = some (.iface T0 u0)) (hs1 : w.cell? ⟨b, off + 1, none⟩ = some (.iface T1 u1)) :
    Calls Try.prog 63 #[eAgg x, .slice (some ⟨b, off, none⟩) len cap] w fun e w' => TreeEnd x xs e ∧ Below w.heap.size w w' := by
  obtain ⟨f0, f1, f2, f3, f4, f5, f6⟩ := x
  simp only at hk
  have c0 : (w.alloc (.cells #[.int .i64 f0, .string f1, .int .i64 f2, .int .i64 f3, .string f4, .string f5, .int .i64 f6] 55)).cell? ⟨b, off, none⟩ = some (.iface T0 u0) := cellB (bAl (Below.refl _ _) _) hz hs0
  have c1 : (w.alloc (.cells #[.int .i64 f0, .string f1, .int .i64 f2, .int .i64 f3, .string f4, .string f5, .int .i64 f6] 55)).cell? ⟨b, off + 1, none⟩ = some (.iface T1 u1) := cellB (bAl (Below.refl _ _) _) hz hs1
  have hp0 : 0 < len := by omega
  have hp1 : 1 < len := by omega
  have n1 : ¬ f0 = 1 := by omega
  have n2 : ¬ f0 = 2 := by omega
  have n3 : ¬ f0 = 3 := by omega
  have n4 : ¬ f0 = 4 := by omega
  have n5 : ¬ f0 = 5 := by omega
  have n6 : ¬ f0 = 6 := by omega
  have n7 : ¬ f0 = 7 := by omega
  have n10 : ¬ f0 = 10 := by omega
  have n20 : ¬ f0 = 20 := by omega
  have n21 : ¬ f0 = 21 := by omega
  clear hs0 hs1 h1 hk
  go_enter Try.func63, Try.ntmps63
  go_wp2_with fail
  go_quiet (fail)
  go_wp2_with fail
  go_ret2
  exact ⟨TreeEnd.one n1 n2 ⟨_, .inr (.inr (.inr (.inr (.inr (.inl rfl)))))⟩, bDrN (bAl (Below.refl _ _) _) _⟩

theorem Tag.if_ {x : ExprT} {v : Value} (h : Tag x v) : ∃ T u, v = .iface T u := by
  rcases h with ⟨_, h⟩ | ⟨_, u, h⟩
  · exact ⟨_, _, h⟩
  · rcases h with h | h | h | h | h | h | h <;> exact ⟨_, _, h⟩
theorem exprTreeOf_any (x : ExprT) (a : Option Addr) (len cap : Nat) (xs : List ExprT) (vs : List Value) (w : World) (hn : NodeP x) (h6 : x.f6 = (xs.length : Int)) (hs : SlI w a len vs) (ht : Tags xs vs) :
    Calls Try.prog 63 #[eAgg x, .slice a len cap] w fun e w' => TreeEnd x xs e ∧ Below w.heap.size w w' := by
  have hb := hn.kids
  have el : len = xs.length := hs.1.trans ht.1
  have hl : len ≤ 1000 := by omega
  by_cases hk : x.f0 = 1 ∨ x.f0 = 3 ∨ x.f0 = 2
  · exact exprTreeOf_plain x a len cap xs vs w hk hl hs ht
  have hk6 : x.f6 = ari x.f0 := by
    have := hn.2.1
    unfold kidP at this
    rwa [if_neg (by omega)] at this
  have hne := hn.1
  have get : ∀ i, i < len → ∃ b off, a = some ⟨b, off, none⟩ ∧ IfRow w b off vs := fun i hi => hs.at hi
  have cel : ∀ {b off}, IfRow w b off vs → ∀ i, i < len → ∃ T u, w.cell? ⟨b, off + i, none⟩ = some (.iface T u) := by
    intro b off hr i hi
    have h1 : i < vs.length := by rw [ht.1]; omega
    obtain ⟨T, u, e⟩ := (ht.2 i (by omega) h1).if_
    exact ⟨T, u, by rw [hr.c i h1, e]⟩
  by_cases hg : x.f0 = 4 ∨ x.f0 = 5 ∨ x.f0 = 20 ∨ x.f0 = 21 ∨ x.f0 = 6 ∨ x.f0 = 7
  · have e1 : ari x.f0 = 1 := by unfold ari; rw [if_neg (by omega), if_neg (by omega), if_pos (by omega)]
    obtain ⟨b, off, rfl, hr⟩ := get 0 (by omega)
    obtain ⟨T, u, c⟩ := cel hr 0 (by omega)
    exact exprTreeOf_get x b off len cap xs T u w hg (by omega) hr.z c
  by_cases hi : x.f0 = 10
  · have e1 : ari x.f0 = 3 := by rw [hi]; rfl
    obtain ⟨b, off, rfl, hr⟩ := get 0 (by omega)
    obtain ⟨T0, u0, c0⟩ := cel hr 0 (by omega)
    obtain ⟨T1, u1, c1⟩ := cel hr 1 (by omega)
    obtain ⟨T2, u2, c2⟩ := cel hr 2 (by omega)
    exact exprTreeOf_if x b off len cap xs T0 T1 T2 u0 u1 u2 w hi hl (by omega) hr.z c0 c1 c2
  have h8 : 8 ≤ x.f0 ∧ x.f0 ≤ 19 := by
    unfold ari at hne
    rw [if_neg (by omega), if_neg (by omega), if_neg (by omega), if_neg (by omega)] at hne
    by_cases h : 8 ≤ x.f0 ∧ x.f0 ≤ 19
    · exact h
    · rw [if_neg h] at hne; exact absurd rfl hne
  have e1 : ari x.f0 = 2 := by unfold ari; rw [if_neg (by omega), if_neg (by omega), if_neg (by omega), if_neg (by omega), if_pos h8]
  obtain ⟨b, off, rfl, hr⟩ := get 0 (by omega)
  obtain ⟨T0, u0, c0⟩ := cel hr 0 (by omega)
  obtain ⟨T1, u1, c1⟩ := cel hr 1 (by omega)
  exact exprTreeOf_pair x b off len cap xs T0 T1 u0 u1 w ⟨h8.1, h8.2, hi⟩ hl (by omega) hr.z c0 c1
end Go.Proofs.Ytbgakkbniekccaa.V
