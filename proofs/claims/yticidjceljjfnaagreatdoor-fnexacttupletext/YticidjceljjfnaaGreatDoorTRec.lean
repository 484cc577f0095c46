/- spec.l6Record; impl.isGiven. -/
import Derived.Test.YticidjceljjfnaaGreatDoorWVal
namespace Go.Proofs.YticidjceljjfnaaGreatDoor.V
open Go.RowKit

abbrev vAgg (v : ValT) (a1 : Option Addr) (l1 c1 : Nat) (a2 : Option Addr) (l2 c2 : Nat) : Value := .agg #[.int .i64 v.k, .int .i64 v.a.x, .int .i64 v.a.n, .string v.a.t, .string v.a.y, .slice a1 l1 c1, .slice a2 l2 c2]
/-- A good record. -/
def Rec (v : ValT) : Prop := v.k = 3 ∧ GoodVal v
theorem Rec.parts {v : ValT} (h : Rec v) : v.items.length ≤ 50 ∧ AllA v.items v.items.length ∧ v.names.length = v.items.length ∧ AllN v.names v.names.length ∧ RisN v.names v.names.length := by
  obtain ⟨h1, h2⟩ := h
  rcases h2 with h | h | h
  · omega
  · omega
  · exact h.2.2

set_option maxRecDepth 20000 in
set_option maxHeartbeats 400000 in
theorem l6Record_any (v : ValT) (hv : v.Ok) (a1 a2 : Option Addr) (l1 c1 l2 c2 : Nat) (w : World) (hs1 : SlA w a1 l1 v.items) (hs2 : SlS w a2 l2 v.names) :
    Calls Tryz.prog 33 #[vAgg v a1 l1 c1 a2 l2 c2] w fun e w' => RetB e (Rec v) ∧ Below w.heap.size w w' := by
  have B0 := hide (bAl (Below.refl w.heap.size w) (.cells #[.int .i64 v.k, .int .i64 v.a.x, .int .i64 v.a.n, .string v.a.t, .string v.a.y, .slice a1 l1 c1, .slice a2 l2 c2] 35))
  have q := hide (sGoodValue_any v hv a1 a2 l1 c1 l2 c2 (w.alloc (.cells #[.int .i64 v.k, .int .i64 v.a.x, .int .i64 v.a.n, .string v.a.t, .string v.a.y, .slice a1 l1 c1, .slice a2 l2 c2] 35)) (hs1.keep (unhide B0)) (hs2.keep (unhide B0)))
  have RI : Hid (Rec v ↔ v.k = 3 ∧ GoodVal v) := hide Iff.rfl
  clear hs1 hs2 hv
  generalize GoodVal v = GV at *
  generalize Rec v = RV at *
  by_cases hk : v.k = 3
  · have HK := hide hk
    have dk : (v.k == 3) = true := by simpa using hk
    clear hk
    go_enter Tryz.func33, Tryz.ntmps33
    go_wp2_with fail
    refine (unhide q).mono ?_
    rintro e w1 ⟨⟨b, rfl, hb⟩, hb1⟩
    have HB := hide hb
    have B1 := hide (bTr (unhide B0) hb1)
    clear hb hb1 q
    go_wp2_with fail
    go_ret
    exact ⟨retB (by rw [unhide RI, unhide HB]; exact ⟨fun h => ⟨unhide HK, h⟩, fun h => h.2⟩), unhide B1⟩
  · have dk : (v.k == 3) = false := by simpa using hk
    have N : Hid (¬ RV) := hide (by rw [unhide RI]; exact fun h => hk h.1)
    clear hk
    go_enter Tryz.func33, Tryz.ntmps33
    go_wp2_with fail
    go_ret
    exact ⟨retB (b := false) ⟨fun h => (by cases h), fun h => absurd h (unhide N)⟩, unhide B0⟩

set_option maxRecDepth 20000 in
set_option maxHeartbeats 400000 in
theorem isGiven_any (v : ValT) (hv : v.Ok) (a1 a2 : Option Addr) (l1 c1 l2 c2 : Nat) (w : World) (hl : l1 ≤ maxLen) (hs1 : SlA w a1 l1 v.items) (hs2 : SlS w a2 l2 v.names) :
    Calls Tryz.prog 65 #[vAgg v a1 l1 c1 a2 l2 c2] w fun e w' => RetB e (Rec v) ∧ Below w.heap.size w w' := by
  have B0 := hide (bAl (Below.refl w.heap.size w) (.cells #[.int .i64 v.k, .int .i64 v.a.x, .int .i64 v.a.n, .string v.a.t, .string v.a.y, .slice a1 l1 c1, .slice a2 l2 c2] 35))
  have q := hide (iGoodValue_any v hv a1 a2 l1 c1 l2 c2 (w.alloc (.cells #[.int .i64 v.k, .int .i64 v.a.x, .int .i64 v.a.n, .string v.a.t, .string v.a.y, .slice a1 l1 c1, .slice a2 l2 c2] 35)) hl (hs1.keep (unhide B0)) (hs2.keep (unhide B0)))
  have RI : Hid (Rec v ↔ v.k = 3 ∧ GoodVal v) := hide Iff.rfl
  clear hs1 hs2 hv
  generalize GoodVal v = GV at *
  generalize Rec v = RV at *
  by_cases hk : v.k = 3
  · have HK := hide hk
    have dk : (v.k == 3) = true := by simpa using hk
    clear hk
    go_enter Tryz.func65, Tryz.ntmps65
    go_wp2_with fail
    refine (unhide q).mono ?_
    rintro e w1 ⟨⟨b, rfl, hb⟩, hb1⟩
    have HB := hide hb
    have B1 := hide (bTr (unhide B0) hb1)
    clear hb hb1 q
    go_wp2_with fail
    go_ret
    exact ⟨retB (by rw [unhide RI, unhide HB]; exact ⟨fun h => ⟨unhide HK, h⟩, fun h => h.2⟩), unhide B1⟩
  · have dk : (v.k == 3) = false := by simpa using hk
    have N : Hid (¬ RV) := hide (by rw [unhide RI]; exact fun h => hk h.1)
    clear hk
    go_enter Tryz.func65, Tryz.ntmps65
    go_wp2_with fail
    go_ret
    exact ⟨retB (b := false) ⟨fun h => (by cases h), fun h => absurd h (unhide N)⟩, unhide B0⟩

end Go.Proofs.YticidjceljjfnaaGreatDoor.V
