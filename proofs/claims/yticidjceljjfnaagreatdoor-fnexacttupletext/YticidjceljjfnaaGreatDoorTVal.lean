/- No value: impl.isNoValue, spec.l7Empty; impl.isToldGiven. -/
import Derived.Test.YticidjceljjfnaaGreatDoorTRec
namespace Go.Proofs.YticidjceljjfnaaGreatDoor.V
open Go.RowKit
set_option maxRecDepth 20000

/-- The zero value. -/
def NoV (v : ValT) : Prop := v.k = 0 ∧ zeroA v.a ∧ v.items = [] ∧ v.names = []

set_option maxHeartbeats 1000000 in
theorem isNoValue_any (v : ValT) (a1 a2 : Option Addr) (l1 c1 l2 c2 : Nat) (w : World) (e1 : l1 = v.items.length) (e2 : l2 = v.names.length) :
    Calls Tryz.prog 64 #[vAgg v a1 l1 c1 a2 l2 c2] w fun e w' => RetB e (NoV v) ∧ Below w.heap.size w w' := by
  obtain ⟨k, A, items, names⟩ := v
  simp only at e1 e2
  have no := fun (P : Prop) (h : ¬ NoV ⟨k, A, items, names⟩) => (show (false = true ↔ NoV ⟨k, A, items, names⟩) from ⟨fun h => (by cases h), fun h2 => absurd h2 h⟩)
  by_cases hk : k = 0
  · subst hk
    by_cases hz : zeroA A
    · obtain rfl := zeroA_eq hz
      by_cases h1 : l1 = 0
      · by_cases h2 : l2 = 0
        · have hy := hide (show NoV ⟨0, ⟨0, 0, ⟨#[]⟩, ⟨#[]⟩⟩, items, names⟩ from ⟨rfl, zeroA_zero, List.length_eq_zero_iff.1 (show items.length = 0 by omega), List.length_eq_zero_iff.1 (show names.length = 0 by omega)⟩)
          subst h1 h2
          clear no hz e1 e2
          go_enter Tryz.func64, Tryz.ntmps64
          go_wp2_with fail
          go_ret
          exact ⟨retB (b := true) ⟨fun _ => unhide hy, fun _ => rfl⟩, bAl (Below.refl _ _) _⟩
        · have hn := hide (no True (fun h => h2 (by rw [e2, show names = [] from h.2.2.2]; rfl)))
          subst h1
          have d2 : ((l2 : Int) == 0) = false := by rw [beq_eq_false_iff_ne]; omega
          clear no hz e1 e2
          go_enter Tryz.func64, Tryz.ntmps64
          go_wp2_with fail
          go_ret
          exact ⟨retB (b := false) (unhide hn), bAl (Below.refl _ _) _⟩
      · have hn := hide (no True (fun h => h1 (by rw [e1, show items = [] from h.2.2.1]; rfl)))
        clear no hz e1 e2
        go_enter Tryz.func64, Tryz.ntmps64
        go_wp2_with fail
        go_ret
        exact ⟨retB (b := false) (unhide hn), bAl (Below.refl _ _) _⟩
    · have hn := hide (no True (fun h => hz h.2.1))
      have HZ := hide hz
      clear no hz e1 e2
      go_enter Tryz.func64, Tryz.ntmps64
      go_wp2_with fail
      all_goals first
        | exact absurd ⟨‹_›, ‹_›, ‹_›, ‹_›⟩ (unhide HZ)
        | (go_ret; exact ⟨retB (b := false) (unhide hn), bAl (Below.refl _ _) _⟩)
  · have hn := hide (no True (fun h => hk h.1))
    clear no e1 e2
    go_enter Tryz.func64, Tryz.ntmps64
    go_wp2_with fail
    go_ret
    exact ⟨retB (b := false) (unhide hn), bAl (Below.refl _ _) _⟩

set_option maxHeartbeats 1000000 in
theorem l7Empty_any (v : ValT) (a1 a2 : Option Addr) (l1 c1 l2 c2 : Nat) (w : World) (e1 : l1 = v.items.length) (e2 : l2 = v.names.length) :
    Calls Tryz.prog 32 #[vAgg v a1 l1 c1 a2 l2 c2] w fun e w' => RetB e (NoV v) ∧ Below w.heap.size w w' := by
  obtain ⟨k, A, items, names⟩ := v
  simp only at e1 e2
  have no := fun (P : Prop) (h : ¬ NoV ⟨k, A, items, names⟩) => (show (false = true ↔ NoV ⟨k, A, items, names⟩) from ⟨fun h => (by cases h), fun h2 => absurd h2 h⟩)
  by_cases hk : k = 0
  · subst hk
    by_cases hz : zeroA A
    · obtain rfl := zeroA_eq hz
      by_cases h1 : l1 = 0
      · by_cases h2 : l2 = 0
        · have hy := hide (show NoV ⟨0, ⟨0, 0, ⟨#[]⟩, ⟨#[]⟩⟩, items, names⟩ from ⟨rfl, zeroA_zero, List.length_eq_zero_iff.1 (show items.length = 0 by omega), List.length_eq_zero_iff.1 (show names.length = 0 by omega)⟩)
          subst h1 h2
          clear no hz e1 e2
          go_enter Tryz.func32, Tryz.ntmps32
          go_wp2_with fail
          go_ret
          exact ⟨retB (b := true) ⟨fun _ => unhide hy, fun _ => rfl⟩, bAl (Below.refl _ _) _⟩
        · have hn := hide (no True (fun h => h2 (by rw [e2, show names = [] from h.2.2.2]; rfl)))
          subst h1
          have d2 : ((l2 : Int) == 0) = false := by rw [beq_eq_false_iff_ne]; omega
          clear no hz e1 e2
          go_enter Tryz.func32, Tryz.ntmps32
          go_wp2_with fail
          go_ret
          exact ⟨retB (b := false) (unhide hn), bAl (Below.refl _ _) _⟩
      · have hn := hide (no True (fun h => h1 (by rw [e1, show items = [] from h.2.2.1]; rfl)))
        clear no hz e1 e2
        go_enter Tryz.func32, Tryz.ntmps32
        go_wp2_with fail
        go_ret
        exact ⟨retB (b := false) (unhide hn), bAl (Below.refl _ _) _⟩
    · have hn := hide (no True (fun h => hz h.2.1))
      have HZ := hide hz
      clear no hz e1 e2
      go_enter Tryz.func32, Tryz.ntmps32
      go_wp2_with fail
      all_goals first
        | exact absurd ⟨‹_›, ‹_›, ‹_›, ‹_›⟩ (unhide HZ)
        | (go_ret; exact ⟨retB (b := false) (unhide hn), bAl (Below.refl _ _) _⟩)
  · have hn := hide (no True (fun h => hk h.1))
    clear no e1 e2
    go_enter Tryz.func32, Tryz.ntmps32
    go_wp2_with fail
    go_ret
    exact ⟨retB (b := false) (unhide hn), bAl (Below.refl _ _) _⟩

/-- What is given may stand with that caveat. -/
def Told (c : ByteArray) (v : ValT) : Prop := (c = ⟨#[]⟩ ∧ NoV v) ∨ (c ≠ ⟨#[]⟩ ∧ Rec v)
theorem told_emp (v : ValT) : Told ⟨#[]⟩ v ↔ NoV v := by
  unfold Told
  exact ⟨fun h => h.elim (fun h => h.2) (fun h => absurd rfl h.1), fun h => .inl ⟨rfl, h⟩⟩
theorem told_not {c : ByteArray} (hc : c ≠ ⟨#[]⟩) (v : ValT) : Told c v ↔ Rec v := by
  unfold Told
  exact ⟨fun h => h.elim (fun h => absurd h.1 hc) (fun h => h.2), fun h => .inr ⟨hc, h⟩⟩
theorem ne_list {c : ByteArray} (hc : c ≠ ⟨#[]⟩) : c.toList.isEmpty = false := by
  have : ¬ c.toList = [] := fun e => hc (by
    rw [ByteArray.toList_eq] at e
    apply ByteArray.ext
    rw [← Array.toList_inj, e])
  simpa using this

set_option maxHeartbeats 1000000 in
theorem isToldGiven_any (c : ByteArray) (v : ValT) (hv : v.Ok) (a1 a2 : Option Addr) (l1 c1 l2 c2 : Nat) (w : World) (hl : l1 ≤ maxLen) (hs1 : SlA w a1 l1 v.items) (hs2 : SlS w a2 l2 v.names) :
    Calls Tryz.prog 42 #[.string c, vAgg v a1 l1 c1 a2 l2 c2] w fun e w' => RetB e (Told c v) ∧ Below w.heap.size w w' := by
  have B0 := hide (bAl (Below.refl w.heap.size w) (.cells #[.int .i64 v.k, .int .i64 v.a.x, .int .i64 v.a.n, .string v.a.t, .string v.a.y, .slice a1 l1 c1, .slice a2 l2 c2] 35))
  have q1 := hide (fun w => isNoValue_any v a1 a2 l1 c1 l2 c2 w hs1.1 hs2.1)
  have q2 := hide (fun w h1 h2 => isGiven_any v hv a1 a2 l1 c1 l2 c2 w hl h1 h2)
  have HS1 := hide hs1
  have HS2 := hide hs2
  clear hs1 hs2 hv hl
  by_cases hc : c = ⟨#[]⟩
  · subst hc
    go_enter Tryz.func42, Tryz.ntmps42
    go_wp2_with fail
    refine (unhide q1 _).mono ?_
    rintro e w1 ⟨⟨b, rfl, hb⟩, hb1⟩
    have HB := hide hb
    have B1 := hide (bTr (unhide B0) hb1)
    clear hb hb1
    go_wp2_with fail
    go_ret
    exact ⟨retB (by rw [told_emp]; exact unhide HB), unhide B1⟩
  · have hc2 := ne_list hc
    have HC := hide hc
    clear hc
    go_enter Tryz.func42, Tryz.ntmps42
    go_wp2_with fail
    refine (unhide q2 _ ((unhide HS1).keep (unhide B0)) ((unhide HS2).keep (unhide B0))).mono ?_
    rintro e w1 ⟨⟨b, rfl, hb⟩, hb1⟩
    have HB := hide hb
    have B1 := hide (bTr (unhide B0) hb1)
    clear hb hb1
    go_wp2_with fail
    go_ret
    exact ⟨retB (by rw [told_not (unhide HC)]; exact unhide HB), unhide B1⟩
end Go.Proofs.YticidjceljjfnaaGreatDoor.V
