/- RTh, RImC, one behind the other. -/
import Derived.Test.YtdflnjjomljgmaaGreatDoorJ37
import Derived.Test.YtdflnjjomljgmaaGreatDoorJ38
import Derived.Test.YtdflnjjomljgmaaGreatDoorJ39
/- spec.l6Record, spec.TermHolds; impl.isGiven. -/
namespace Go.Proofs.YtdflnjjomljgmaaGreatDoor.V
open Go.RowKit

/-- A good record. -/
def Rec (v : ValT) : Prop := v.k = 3 ∧ GoodVal v
theorem Rec.parts {v : ValT} (h : Rec v) : v.items.length ≤ 50 ∧ AllA v.items v.items.length ∧ v.names.length = v.items.length ∧ AllN v.names v.names.length ∧ RisN v.names v.names.length := by
  obtain ⟨h1, h2⟩ := h
  rcases h2 with h | h | h
  · omega
  · omega
  · exact h.2.2

set_option maxRecDepth 20000 in
set_option maxHeartbeats 400000 in
theorem l6Record_any (v : ValT) (hv : v.Ok) (a1 a2 : Option Addr) (l1 c1 l2 c2 : Nat) (w : World) (hs1 : SlA w a1 l1 v.items) (hs2 : SlS w a2 l2 v.names) :
    Calls Tryz.prog 20 #[vAgg v a1 l1 c1 a2 l2 c2] w fun e w' => RetB e (Rec v) ∧ Below w.heap.size w w' := by
  have B0 := hide (bAl (Below.refl w.heap.size w) (.cells #[.int .i64 v.k, .int .i64 v.a.x, .int .i64 v.a.n, .string v.a.t, .string v.a.y, .slice a1 l1 c1, .slice a2 l2 c2] 43))
  have q := hide (sGoodValue_any v hv a1 a2 l1 c1 l2 c2 (w.alloc (.cells #[.int .i64 v.k, .int .i64 v.a.x, .int .i64 v.a.n, .string v.a.t, .string v.a.y, .slice a1 l1 c1, .slice a2 l2 c2] 43)) (hs1.keep (unhide B0)) (hs2.keep (unhide B0)))
  have RI : Hid (Rec v ↔ v.k = 3 ∧ GoodVal v) := hide Iff.rfl
  clear hs1 hs2 hv
  generalize GoodVal v = GV at *
  generalize Rec v = RV at *
  by_cases hk : v.k = 3
  · have HK := hide hk
    have dk : (v.k == 3) = true := by simpa using hk
    clear hk
    go_enter Tryz.func20, Tryz.ntmps20
    go_wp2_with fail
    refine (unhide q).mono ?_
    rintro e w1 ⟨⟨b, rfl, hb⟩, hb1⟩
    have HB := hide hb
    have B1 := hide (bTr (unhide B0) hb1)
    clear hb hb1 q
    go_wp2_with fail
    go_ret
    exact ⟨retB (by rw [unhide RI, unhide HB]; exact ⟨fun h => ⟨unhide HK, h⟩, fun h => h.2⟩), unhide B1⟩
  · have dk : (v.k == 3) = false := by simpa using hk
    have N : Hid (¬ RV) := hide (by rw [unhide RI]; exact fun h => hk h.1)
    clear hk
    go_enter Tryz.func20, Tryz.ntmps20
    go_wp2_with fail
    go_ret
    exact ⟨retB (b := false) ⟨fun h => (by cases h), fun h => absurd h (unhide N)⟩, unhide B0⟩

set_option maxRecDepth 20000 in
set_option maxHeartbeats 400000 in
theorem isGiven_any (v : ValT) (hv : v.Ok) (a1 a2 : Option Addr) (l1 c1 l2 c2 : Nat) (w : World) (hl : l1 ≤ maxLen) (hs1 : SlA w a1 l1 v.items) (hs2 : SlS w a2 l2 v.names) :
    Calls Tryz.prog 31 #[vAgg v a1 l1 c1 a2 l2 c2] w fun e w' => RetB e (Rec v) ∧ Below w.heap.size w w' := by
  have B0 := hide (bAl (Below.refl w.heap.size w) (.cells #[.int .i64 v.k, .int .i64 v.a.x, .int .i64 v.a.n, .string v.a.t, .string v.a.y, .slice a1 l1 c1, .slice a2 l2 c2] 43))
  have q := hide (iGoodValue_any v hv a1 a2 l1 c1 l2 c2 (w.alloc (.cells #[.int .i64 v.k, .int .i64 v.a.x, .int .i64 v.a.n, .string v.a.t, .string v.a.y, .slice a1 l1 c1, .slice a2 l2 c2] 43)) hl (hs1.keep (unhide B0)) (hs2.keep (unhide B0)))
  have RI : Hid (Rec v ↔ v.k = 3 ∧ GoodVal v) := hide Iff.rfl
  clear hs1 hs2 hv
  generalize GoodVal v = GV at *
  generalize Rec v = RV at *
  by_cases hk : v.k = 3
  · have HK := hide hk
    have dk : (v.k == 3) = true := by simpa using hk
    clear hk
    go_enter Tryz.func31, Tryz.ntmps31
    go_wp2_with fail
    refine (unhide q).mono ?_
    rintro e w1 ⟨⟨b, rfl, hb⟩, hb1⟩
    have HB := hide hb
    have B1 := hide (bTr (unhide B0) hb1)
    clear hb hb1 q
    go_wp2_with fail
    go_ret
    exact ⟨retB (by rw [unhide RI, unhide HB]; exact ⟨fun h => ⟨unhide HK, h⟩, fun h => h.2⟩), unhide B1⟩
  · have dk : (v.k == 3) = false := by simpa using hk
    have N : Hid (¬ RV) := hide (by rw [unhide RI]; exact fun h => hk h.1)
    clear hk
    go_enter Tryz.func31, Tryz.ntmps31
    go_wp2_with fail
    go_ret
    exact ⟨retB (b := false) ⟨fun h => (by cases h), fun h => absurd h (unhide N)⟩, unhide B0⟩

/-- TermHolds may ask. -/
def askT (t : CavTermT) (v : ValT) : Prop := Rec v ∧ 1 ≤ t.f1 ∧ t.f1 ≤ 4 ∧ (t.f2 = empB ∨ zAtomT t)

end Go.Proofs.YtdflnjjomljgmaaGreatDoor.V
/- goodList at terms; impl.GoodCaveat. -/
namespace Go.Proofs.YtdflnjjomljgmaaGreatDoor.V
open Go.RowKit Go.Maps

def AllCavTerm (P : CavTermT → Prop) (l : List CavTermT) (k : Nat) : Prop := ∀ i (h : i < l.length), i < k → P l[i]
theorem AllCavTerm.step {P : CavTermT → Prop} {l : List CavTermT} {k : Nat} (h : AllCavTerm P l k) (hk : k < l.length) (g : P l[k]) : AllCavTerm P l (k + 1) := by
  intro i hi h1
  rcases Nat.lt_or_ge i k with h2 | h2
  · exact h i hi h2
  · obtain rfl : i = k := by omega
    exact g

theorem rowGrown {w w' : World} {b : Nat} {C : Array Value} {T : TypeId} {row : Option Nat} (h : RowIs w b C T) (hg : w.grownBy w' row) (hne : some b ≠ row) : RowIs w' b C T := by
  have hl := h.lt
  unfold RowIs at *; rw [hg.block b hl hne]; exact h
theorem updK_kMap {l : List ParamT} {k : Nat} (hk : k < l.length) : updK (kMap (l.take k) fun _ => none) l[k].f0 (.int .i64 l[k].f1) = kMap (l.take (k + 1)) fun _ => none := by
  rw [List.take_succ_eq_append_getElem hk, kMap_snoc]

end Go.Proofs.YtdflnjjomljgmaaGreatDoor.V
