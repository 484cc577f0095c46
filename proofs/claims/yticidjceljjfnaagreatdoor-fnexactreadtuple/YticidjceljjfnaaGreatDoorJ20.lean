/- TVal, TId, one behind the other. -/
import Derived.Test.YticidjceljjfnaaGreatDoorJ19
import Derived.Test.YticidjceljjfnaaGreatDoorJ4
/- No value: impl.isNoValue, spec.l7Empty; impl.isToldGiven. -/
namespace Go.Proofs.YticidjceljjfnaaGreatDoor.V
open Go.RowKit
set_option maxRecDepth 20000

/-- The zero value. -/
def NoV (v : ValT) : Prop := v.k = 0 ∧ zeroA v.a ∧ v.items = [] ∧ v.names = []

set_option maxHeartbeats 1000000 in
theorem isNoValue_any (v : ValT) (a1 a2 : Option Addr) (l1 c1 l2 c2 : Nat) (w : World) (e1 : l1 = v.items.length) (e2 : l2 = v.names.length) :
    Calls Tryz.prog 64 #[vAgg v a1 l1 c1 a2 l2 c2] w fun e w' => RetB e (NoV v) ∧ Below w.heap.size w w' := by
  obtain ⟨k, A, items, names⟩ := v
  simp only at e1 e2
  have no := fun (P : Prop) (h : ¬ NoV ⟨k, A, items, names⟩) => (show (false = true ↔ NoV ⟨k, A, items, names⟩) from ⟨fun h => (by cases h), fun h2 => absurd h2 h⟩)
  by_cases hk : k = 0
  · subst hk
    by_cases hz : zeroA A
    · obtain rfl := zeroA_eq hz
      by_cases h1 : l1 = 0
      · by_cases h2 : l2 = 0
        · have hy := hide (show NoV ⟨0, ⟨0, 0, ⟨#[]⟩, ⟨#[]⟩⟩, items, names⟩ from ⟨rfl, zeroA_zero, List.length_eq_zero_iff.1 (show items.length = 0 by omega), List.length_eq_zero_iff.1 (show names.length = 0 by omega)⟩)
          subst h1 h2
          clear no hz e1 e2
          go_enter Tryz.func64, Tryz.ntmps64
          go_wp2_with fail
          go_ret
          exact ⟨retB (b := true) ⟨fun _ => unhide hy, fun _ => rfl⟩, bAl (Below.refl _ _) _⟩
        · have hn := hide (no True (fun h => h2 (by rw [e2, show names = [] from h.2.2.2]; rfl)))
          subst h1
          have d2 : ((l2 : Int) == 0) = false := by rw [beq_eq_false_iff_ne]; omega
          clear no hz e1 e2
          go_enter Tryz.func64, Tryz.ntmps64
          go_wp2_with fail
          go_ret
          exact ⟨retB (b := false) (unhide hn), bAl (Below.refl _ _) _⟩
      · have hn := hide (no True (fun h => h1 (by rw [e1, show items = [] from h.2.2.1]; rfl)))
        clear no hz e1 e2
        go_enter Tryz.func64, Tryz.ntmps64
        go_wp2_with fail
        go_ret
        exact ⟨retB (b := false) (unhide hn), bAl (Below.refl _ _) _⟩
    · have hn := hide (no True (fun h => hz h.2.1))
      have HZ := hide hz
      clear no hz e1 e2
      go_enter Tryz.func64, Tryz.ntmps64
      go_wp2_with fail
      all_goals first
        | exact absurd ⟨‹_›, ‹_›, ‹_›, ‹_›⟩ (unhide HZ)
        | (go_ret; exact ⟨retB (b := false) (unhide hn), bAl (Below.refl _ _) _⟩)
  · have hn := hide (no True (fun h => hk h.1))
    clear no e1 e2
    go_enter Tryz.func64, Tryz.ntmps64
    go_wp2_with fail
    go_ret
    exact ⟨retB (b := false) (unhide hn), bAl (Below.refl _ _) _⟩

set_option maxHeartbeats 1000000 in
theorem l7Empty_any (v : ValT) (a1 a2 : Option Addr) (l1 c1 l2 c2 : Nat) (w : World) (e1 : l1 = v.items.length) (e2 : l2 = v.names.length) :
    Calls Tryz.prog 32 #[vAgg v a1 l1 c1 a2 l2 c2] w fun e w' => RetB e (NoV v) ∧ Below w.heap.size w w' := by
  obtain ⟨k, A, items, names⟩ := v
  simp only at e1 e2
  have no := fun (P : Prop) (h : ¬ NoV ⟨k, A, items, names⟩) => (show (false = true ↔ NoV ⟨k, A, items, names⟩) from ⟨fun h => (by cases h), fun h2 => absurd h2 h⟩)
  by_cases hk : k = 0
  · subst hk
    by_cases hz : zeroA A
    · obtain rfl := zeroA_eq hz
      by_cases h1 : l1 = 0
      · by_cases h2 : l2 = 0
        · have hy := hide (show NoV ⟨0, ⟨0, 0, ⟨#[]⟩, ⟨#[]⟩⟩, items, names⟩ from ⟨rfl, zeroA_zero, List.length_eq_zero_iff.1 (show items.length = 0 by omega), List.length_eq_zero_iff.1 (show names.length = 0 by omega)⟩)
          subst h1 h2
          clear no hz e1 e2
          go_enter Tryz.func32, Tryz.ntmps32
          go_wp2_with fail
          go_ret
          exact ⟨retB (b := true) ⟨fun _ => unhide hy, fun _ => rfl⟩, bAl (Below.refl _ _) _⟩
        · have hn := hide (no True (fun h => h2 (by rw [e2, show names = [] from h.2.2.2]; rfl)))
          subst h1
          have d2 : ((l2 : Int) == 0) = false := by rw [beq_eq_false_iff_ne]; omega
          clear no hz e1 e2
          go_enter Tryz.func32, Tryz.ntmps32
          go_wp2_with fail
          go_ret
          exact ⟨retB (b := false) (unhide hn), bAl (Below.refl _ _) _⟩
      · have hn := hide (no True (fun h => h1 (by rw [e1, show items = [] from h.2.2.1]; rfl)))
        clear no hz e1 e2
        go_enter Tryz.func32, Tryz.ntmps32
        go_wp2_with fail
        go_ret
        exact ⟨retB (b := false) (unhide hn), bAl (Below.refl _ _) _⟩
    · have hn := hide (no True (fun h => hz h.2.1))
      have HZ := hide hz
      clear no hz e1 e2
      go_enter Tryz.func32, Tryz.ntmps32
      go_wp2_with fail
      all_goals first
        | exact absurd ⟨‹_›, ‹_›, ‹_›, ‹_›⟩ (unhide HZ)
        | (go_ret; exact ⟨retB (b := false) (unhide hn), bAl (Below.refl _ _) _⟩)
  · have hn := hide (no True (fun h => hk h.1))
    clear no e1 e2
    go_enter Tryz.func32, Tryz.ntmps32
    go_wp2_with fail
    go_ret
    exact ⟨retB (b := false) (unhide hn), bAl (Below.refl _ _) _⟩

/-- What is given may stand with that caveat. -/
def Told (c : ByteArray) (v : ValT) : Prop := (c = ⟨#[]⟩ ∧ NoV v) ∨ (c ≠ ⟨#[]⟩ ∧ Rec v)
theorem told_emp (v : ValT) : Told ⟨#[]⟩ v ↔ NoV v := by
  unfold Told
  exact ⟨fun h => h.elim (fun h => h.2) (fun h => absurd rfl h.1), fun h => .inl ⟨rfl, h⟩⟩
theorem told_not {c : ByteArray} (hc : c ≠ ⟨#[]⟩) (v : ValT) : Told c v ↔ Rec v := by
  unfold Told
  exact ⟨fun h => h.elim (fun h => absurd h.1 hc) (fun h => h.2), fun h => .inr ⟨hc, h⟩⟩
theorem ne_list {c : ByteArray} (hc : c ≠ ⟨#[]⟩) : c.toList.isEmpty = false := by
  have : ¬ c.toList = [] := fun e => hc (by
    rw [ByteArray.toList_eq] at e
    apply ByteArray.ext
    rw [← Array.toList_inj, e])
  simpa using this

set_option maxHeartbeats 1000000 in
theorem isToldGiven_any (c : ByteArray) (v : ValT) (hv : v.Ok) (a1 a2 : Option Addr) (l1 c1 l2 c2 : Nat) (w : World) (hl : l1 ≤ maxLen) (hs1 : SlA w a1 l1 v.items) (hs2 : SlS w a2 l2 v.names) :
    Calls Tryz.prog 42 #[.string c, vAgg v a1 l1 c1 a2 l2 c2] w fun e w' => RetB e (Told c v) ∧ Below w.heap.size w w' := by
  have B0 := hide (bAl (Below.refl w.heap.size w) (.cells #[.int .i64 v.k, .int .i64 v.a.x, .int .i64 v.a.n, .string v.a.t, .string v.a.y, .slice a1 l1 c1, .slice a2 l2 c2] 35))
  have q1 := hide (fun w => isNoValue_any v a1 a2 l1 c1 l2 c2 w hs1.1 hs2.1)
  have q2 := hide (fun w h1 h2 => isGiven_any v hv a1 a2 l1 c1 l2 c2 w hl h1 h2)
  have HS1 := hide hs1
  have HS2 := hide hs2
  clear hs1 hs2 hv hl
  by_cases hc : c = ⟨#[]⟩
  · subst hc
    go_enter Tryz.func42, Tryz.ntmps42
    go_wp2_with fail
    refine (unhide q1 _).mono ?_
    rintro e w1 ⟨⟨b, rfl, hb⟩, hb1⟩
    have HB := hide hb
    have B1 := hide (bTr (unhide B0) hb1)
    clear hb hb1
    go_wp2_with fail
    go_ret
    exact ⟨retB (by rw [told_emp]; exact unhide HB), unhide B1⟩
  · have hc2 := ne_list hc
    have HC := hide hc
    clear hc
    go_enter Tryz.func42, Tryz.ntmps42
    go_wp2_with fail
    refine (unhide q2 _ ((unhide HS1).keep (unhide B0)) ((unhide HS2).keep (unhide B0))).mono ?_
    rintro e w1 ⟨⟨b, rfl, hb⟩, hb1⟩
    have HB := hide hb
    have B1 := hide (bTr (unhide B0) hb1)
    clear hb hb1
    go_wp2_with fail
    go_ret
    exact ⟨retB (by rw [told_not (unhide HC)]; exact unhide HB), unhide B1⟩
end Go.Proofs.YticidjceljjfnaaGreatDoor.V
/- Ids: impl.isId, spec.l7Id. -/
namespace Go.Proofs.YticidjceljjfnaaGreatDoor
open Go.RowKit
set_option maxRecDepth 20000

def idcB (c : UInt8) : Bool := namB (c.toNat : Int) || digB (c.toNat : Int) || !((c.toNat : Int) != 45) || !((c.toNat : Int) != 46)
def idB (s : ByteArray) : Bool := decide (1 ≤ s.size ∧ s.size ≤ 40) && s.data.toList.all idcB
theorem nam_let (n : Int) : namB n = (letB n || !(n != 95)) := by
  rw [Bool.eq_iff_iff]
  simp [namB, letB]
theorem idB_size {s : ByteArray} (h : s.size < 1 ∨ 40 < s.size) : idB s = false := by
  unfold idB
  rw [decide_eq_false (by omega)]; rfl
theorem idB_of {s : ByteArray} (h1 : 1 ≤ s.size) (h2 : s.size ≤ 40) : idB s = s.data.toList.all idcB := by
  unfold idB
  rw [decide_eq_true (by omega)]; rfl

set_option maxHeartbeats 1000000 in
theorem isId_any (s : ByteArray) (hs : s.size ≤ maxLen) (w : World) :
    Calls Tryz.prog 39 #[.string s] w fun e w' => e = .returned (.bool (idB s)) ∧ Below w.heap.size w w' := by
  unfold maxLen at hs
  by_cases h1 : s.size < 1
  · have hg := hide (idB_size (s := s) (.inl h1))
    obtain rfl : s = ByteArray.empty := ByteArray.ext (Array.eq_empty_of_size_eq_zero (by show s.size = 0; omega))
    go_enter Tryz.func39, Tryz.ntmps39
    go_wp2
    go_ret
    exact ⟨ret_bool (unhide hg).symm, Below.refl _ _⟩
  have he := isEmpty_of h1
  by_cases h2 : 40 < s.size
  · have hg := hide (idB_size (s := s) (.inr h2))
    go_enter Tryz.func39, Tryz.ntmps39
    go_wp2
    go_ret
    exact ⟨ret_bool (unhide hg).symm, Below.refl _ _⟩
  have hg := hide (idB_of (s := s) (by omega) (by omega))
  have d2 : decide (40 < (s.size : Int)) = false := by simp; omega
  obtain ⟨cap, w1, hrun, hbel, hcell⟩ := conv_bytes s w
  go_enter Tryz.func39, Tryz.ntmps39
  go_wp2_with fail
  go_loop [15] (fun i => ∃ k : Nat, k ≤ s.size ∧ i = .int .i64 k ∧ Hid ((s.data.toList.take k).all idcB = true)) (fun i => s.size - (intOf i).toNat)
  case atStart => exact ⟨0, Nat.zero_le _, rfl, hide (by simp)⟩
  case round =>
    obtain ⟨k, hk, rfl, hall⟩ := hrel
    by_cases hlt : k < s.size
    · have hck := hcell k hlt
      have hok : idcB s[k] = (namB (s[k].toNat : Int) || digB (s[k].toNat : Int) || !((s[k].toNat : Int) != 45) || !((s[k].toNat : Int) != 46)) := rfl
      clear hcell hrun
      cases hl : namB (s[k].toNat : Int) <;> cases hdd : digB (s[k].toNat : Int) <;> cases h45 : ((s[k].toNat : Int) != 45) <;> cases h46 : ((s[k].toNat : Int) != 46)
      all_goals
        rw [hl, hdd, h45, h46] at hok
        have HL := hide hl
        have HD := hide hdd
        have HK := hide hok
        clear hl hdd hok
        go_wp2_with (first | (go_at_call 62; refine (startsName_any _ _).mono ?_; rintro e w' ⟨rfl, rfl⟩; rw [unhide HL]) | (go_at_call 63; refine (isDigit_any _ _).mono ?_; rintro e w' ⟨rfl, rfl⟩; rw [unhide HD]))
        first
          | exact ⟨⟨k + 1, by omega, by go_num, hide (by rw [all_take_succ _ _ _ hlt, unhide hall, unhide HK]; rfl)⟩, by simp [intOf]; omega⟩
          | (go_ret; exact ⟨ret_bool (by rw [unhide hg, all_false_of _ s k hlt (unhide HK)]), hbel⟩)
    · go_wp2
      go_ret
      have e : k = s.size := by omega
      subst e
      refine ⟨ret_bool ?_, hbel⟩
      rw [unhide hg, ← take_whole s, unhide hall]

set_option maxHeartbeats 1000000 in
theorem l7Id_any (s : ByteArray) (hs : s.size ≤ maxLen) (w : World) :
    Calls Tryz.prog 31 #[.string s] w fun e w' => e = .returned (.bool (idB s)) ∧ Below w.heap.size w w' := by
  unfold maxLen at hs
  go_enter Tryz.func31, Tryz.ntmps31
  go_wp2_with fail
  go_loop [3] (fun i => ∃ k : Nat, k ≤ s.size ∧ i = .int .i64 k ∧ Hid ((s.data.toList.take k).all idcB = true)) (fun i => s.size - (intOf i).toNat)
  case atStart => exact ⟨0, Nat.zero_le _, rfl, hide (by simp)⟩
  case round =>
    obtain ⟨k, hk, rfl, hall⟩ := hrel
    by_cases hlt : k < s.size
    · have hok : idcB s[k] = (letB (s[k].toNat : Int) || !((s[k].toNat : Int) != 95) || digB (s[k].toNat : Int) || !((s[k].toNat : Int) != 45) || !((s[k].toNat : Int) != 46)) := by unfold idcB; rw [nam_let]
      cases hl : letB (s[k].toNat : Int) <;> cases hdd : digB (s[k].toNat : Int) <;> cases h95 : ((s[k].toNat : Int) != 95) <;> cases h45 : ((s[k].toNat : Int) != 45) <;> cases h46 : ((s[k].toNat : Int) != 46)
      all_goals
        rw [hl, hdd, h95, h45, h46] at hok
        have HL := hide hl
        have HD := hide hdd
        have HK := hide hok
        clear hl hdd hok
        go_wp2_with (first | (go_at_call 59; refine (l1Letter_any _ _).mono ?_; rintro e w' ⟨rfl, rfl⟩; rw [unhide HL]) | (go_at_call 58; refine (l1Digit_any _ _).mono ?_; rintro e w' ⟨rfl, rfl⟩; rw [unhide HD]))
        first
          | exact ⟨⟨k + 1, by omega, by go_num, hide (by rw [all_take_succ _ _ _ hlt, unhide hall, unhide HK]; rfl)⟩, by simp [intOf]; omega⟩
          | (go_ret; exact ⟨ret_bool (by unfold idB; rw [all_false_of _ s k hlt (unhide HK), Bool.and_false]), Below.refl _ _⟩)
    · have e : k = s.size := by omega
      subst e
      have ha := hide (show s.data.toList.all idcB = true by rw [← take_whole s]; exact unhide hall)
      by_cases h1 : 1 ≤ s.size
      · by_cases h2 : s.size ≤ 40
        · go_wp2_with fail
          go_ret
          exact ⟨ret_bool (by rw [idB_of h1 h2, unhide ha]; exact decide_eq_true (by omega)), Below.refl _ _⟩
        · go_wp2_with fail
          go_ret
          exact ⟨ret_bool (by rw [idB_size (.inr (by omega))]; exact decide_eq_false (by omega)), Below.refl _ _⟩
      · go_wp2_with fail
        go_ret
        exact ⟨ret_bool (by rw [idB_size (.inl (by omega))]), Below.refl _ _⟩
end Go.Proofs.YticidjceljjfnaaGreatDoor
