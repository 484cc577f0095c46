/- FRc, TId, one behind the other. -/
import Derived.Test.YteaidfighimoiaaGreatJ22
import Derived.Test.YteaidfighimoiaaGreatJ3
/- impl.kidsOf at an ExprIf, every at trees. -/
namespace Go.Proofs.YteaidfighimoiaaGreat.V
open Go.RowKit Go.Maps

/-- A tree with the value that it is. -/
structure IE where
  t : ET
  T : TypeId
  u : Value
structure HdI where
  a : Option Addr
  len : Nat
  cap : Nat
structure IRowE (w : World) (b off : Nat) (l : List IE) : Prop where
  z : b < w.heap.size
  c : ∀ i (h : i < l.length), w.cell? ⟨b, off + i, none⟩ = some (.iface l[i].T l[i].u)
def SqI (w : World) (_lo : Nat) (h : HdI) (l : List IE) : Prop := h.len = l.length ∧ (l = [] ∨ ∃ b off, h.a = some ⟨b, off, none⟩ ∧ IRowE w b off l)
theorem SqI.keep {w w1 : World} {lo : Nat} {h : HdI} {l : List IE} (g : SqI w lo h l) (hb : Below w.heap.size w w1) : SqI w1 lo h l :=
  ⟨g.1, g.2.imp_right fun ⟨b, off, e, r⟩ => ⟨b, off, e, Nat.lt_of_lt_of_le r.z hb.size, fun i hi => cellB hb r.z (r.c i hi)⟩⟩
theorem SqI.at {w : World} {lo : Nat} {h : HdI} {l : List IE} (g : SqI w lo h l) {k : Nat} (hk : k < h.len) : ∃ b off, h.a = some ⟨b, off, none⟩ ∧ IRowE w b off l := by
  rcases g.2 with e | e
  · rw [g.1, e] at hk; simp at hk
  · exact e
set_option maxHeartbeats 1000000 in
theorem notGood_Frag  (P : IE → Prop) (b : Nat) (x : IE) (w : World) (hc : w.cell? ⟨b, 0, none⟩ = some (.func (.func 20) #[] #[]))
    (q : ∀ w' : World, Below w.heap.size w w' → Calls Tryz.prog 20 #[.iface x.T x.u] w' fun e w'' => RetB e (P x) ∧ Below w'.heap.size w' w'') :
    Calls Tryz.prog 73 #[.iface x.T x.u, .pointer (some ⟨b, 0, none⟩)] w fun e w' => RetB e (¬ P x) ∧ Below w.heap.size w w' := by
  have HB := hide (Below.refl w.heap.size w)
  have zb : b < w.heap.size := World.block_lt_of_cell? w ⟨b, 0, none⟩ hc
  have Q := hide (q _ (unhide HB))
  clear q
  go_enter Tryz.func73, Tryz.ntmps73
  go_wp2_with fail
  refine (unhide Q).mono ?_
  rintro e w1 ⟨⟨v, rfl, hv⟩, hb⟩
  have B1 := hide (bTr (unhide HB) hb)
  have HV := hide hv
  clear hb HB Q hc hv
  go_wp2_with fail
  go_ret
  refine ⟨retB (b := !v) ?_, unhide B1⟩
  rw [← unhide HV]; cases v <;> simp
set_option maxHeartbeats 1000000 in
theorem indexBad_Frag  (P : IE → Prop) (b : Nat) (h : HdI) (l : List IE) (w : World) (hl : l.length ≤ maxLen) (hs : SqI w 0 h l) (hc : w.cell? ⟨b, 0, none⟩ = some (.func (.func 20) #[] #[]))
    (q : ∀ x ∈ l, ∀ w' : World, Below w.heap.size w w' → Calls Tryz.prog 20 #[.iface x.T x.u] w' fun e w'' => RetB e (P x) ∧ Below w'.heap.size w' w'') :
    Calls Tryz.prog 77 #[.slice h.a h.len h.cap, .func (.func 73) #[] #[.pointer (some ⟨b, 0, none⟩)]] w fun e w' => (∃ v : Int, e = .returned (.int .i64 v) ∧ (0 ≤ v ↔ ¬ ∀ x ∈ l, P x)) ∧ Below w.heap.size w w' := by
  have HS := hide hs
  have zb : b < w.heap.size := World.block_lt_of_cell? w ⟨b, 0, none⟩ hc
  have HC := hide (fun (w' : World) (h : Below w.heap.size w w') => cellB (w' := w') h zb hc)
  have HQ := hide q
  have HL := hide hs.1
  have hlm : h.len ≤ maxLen := by rw [hs.1]; exact hl
  unfold maxLen at hlm
  obtain ⟨a, len, cap⟩ := h
  simp only at hlm HL
  clear hs hc q hl
  go_enter Tryz.func77, Tryz.ntmps77
  go_wp2_with fail
  go_loopw [8] (fun i w' => ∃ k : Nat, k ≤ len ∧ i = .int .i64 k ∧ Hid (Below w.heap.size w w') ∧ Hid (∀ i (h : i < l.length), i < k → P l[i])) (fun i _ => len - (Go.RowKit.intOf i).toNat)
  case atStart => exact ⟨0, Nat.zero_le _, rfl, hide (Below.refl _ _), hide (fun i _ h => absurd h (Nat.not_lt_zero _))⟩
  case round =>
    obtain ⟨k, hk, rfl, hb, hA⟩ := hrel
    by_cases hlt : k < len
    · have hk' : k < l.length := by have := unhide HL; omega
      obtain ⟨bb_, off, e0, hrow⟩ := ((unhide HS).keep (unhide hb)).at hlt
      simp only at e0
      subst e0
      have c0 := hrow.c k hk'
      have zk := hrow.z
      have q := hide (notGood_Frag  P b l[k] wr (unhide HC _ (unhide hb)) (fun w' h => unhide HQ _ (List.getElem_mem hk') w' (bTr (unhide hb) h)))
      have eS : Hid (P l[k] → ∀ i (h : i < l.length), i < k + 1 → P l[i]) := hide (fun g i hi h1 => by
        rcases Nat.lt_or_ge i k with h2 | h2
        · exact unhide hA i hi h2
        · obtain rfl : i = k := by omega
          exact g)
      have eN : Hid (¬ P l[k] → ¬ ∀ x ∈ l, P x) := hide (fun g h => g (h _ (List.getElem_mem hk')))
      clear hrow
      generalize l[k] = A at *
      go_wp2_with fail
      refine (unhide q).mono ?_
      rintro e w1 ⟨⟨v, rfl, hv⟩, hb1⟩
      have B1 := hide (bTr (unhide hb) hb1)
      have HV := hide hv
      clear hb1 q hv c0
      cases v
      · have S := hide (unhide eS (Classical.byContradiction fun h => by have := (unhide HV).2 h; cases this))
        clear eS eN HV
        go_wp2_with fail
        exact ⟨⟨k + 1, by omega, by go_num, B1, S⟩, by simp [Go.RowKit.intOf]; omega⟩
      · have N := hide (unhide eN ((unhide HV).1 rfl))
        clear eS eN HV
        go_wp2_with fail
        go_ret
        exact ⟨⟨_, rfl, fun _ => unhide N, fun _ => by omega⟩, unhide B1⟩
    · have S : Hid (∀ x ∈ l, P x) := hide (fun x hx => by
        obtain ⟨i, hi, rfl⟩ := List.getElem_of_mem hx
        exact unhide hA i hi (by have := unhide HL; omega))
      go_wp2_with fail
      go_ret
      exact ⟨⟨_, rfl, fun h => absurd h (by decide), fun h => absurd (unhide S) h⟩, unhide hb⟩
set_option maxHeartbeats 1000000 in
theorem goodList_Frag  (P : IE → Prop) (most : Int) (h : HdI) (l : List IE) (w : World) (hl : l.length ≤ maxLen) (hs : SqI w 0 h l)
    (q : ∀ x ∈ l, ∀ w' : World, Below w.heap.size w w' → Calls Tryz.prog 20 #[.iface x.T x.u] w' fun e w'' => RetB e (P x) ∧ Below w'.heap.size w' w'') :
    Calls Tryz.prog 61 #[.slice h.a h.len h.cap, .int .i64 most, .func (.func 20) #[] #[]] w fun e w' => RetB e ((l.length : Int) ≤ most ∧ ∀ x ∈ l, P x) ∧ Below w.heap.size w w' := by
  have HS := hide hs
  have HQ := hide q
  have HL := hide hs.1
  have HM := hide hl
  clear hs q hl
  by_cases h200 : (h.len : Int) ≤ most
  · obtain ⟨W, hW⟩ : ∃ W, W = w.alloc (.cells #[.func (.func 20) #[] #[]] 58) := ⟨_, rfl⟩
    have R := show RowIs W w.heap.size #[.func (.func 20) #[] #[]] 58 by rw [hW]; exact RowIs.new _ _ _
    have B := hide (show Below w.heap.size w W by rw [hW]; exact bAl (Below.refl _ _) _)
    have HW := hide hW.symm
    clear hW
    have q := hide (fun hc => indexBad_Frag  P w.heap.size h l W (unhide HM) ((unhide HS).keep (unhide B)) hc (fun x hx w' h => unhide HQ x hx w' (bTr (unhide B) h)))
    have q2 : Hid (Calls Tryz.prog 72 #[.slice h.a h.len h.cap, .func (.func 73) #[] #[.pointer (some ⟨w.heap.size, 0, none⟩)]] W fun e w' => (∃ v : Bool, e = .returned (.bool v) ∧ (v = true ↔ ¬ ∀ x ∈ l, P x)) ∧ Below W.heap.size W w') := hide (by
      have q := hide (unhide q (R.at (o := 0) rfl))
      go_enter Tryz.func72, Tryz.ntmps72
      go_wp2_with fail
      refine (unhide q).mono ?_
      rintro e w1 ⟨⟨v, rfl, hv⟩, hb⟩
      have HV := hide hv
      clear hv
      go_wp2_with fail
      go_ret
      exact ⟨⟨decide (0 ≤ v), rfl, by rw [decide_eq_true_iff]; exact unhide HV⟩, hb⟩)
    have hst := @run_store Tryz.prog
    clear q R
    go_enter Tryz.func61, Tryz.ntmps61
    go_wp2_with fail
    rw [unhide HW]
    refine (unhide q2).mono ?_
    rintro e w1 ⟨⟨v, rfl, hv⟩, hb⟩
    have HV := hide hv
    have B1 := hide (bTr (unhide B) hb)
    clear hv hb q2 hst HW B
    go_wp2_with fail
    go_ret
    have hle := unhide HL
    refine ⟨retB (b := !v) ⟨fun h => ?_, fun h => ?_⟩, unhide B1⟩
    · cases v
      · refine ⟨by omega, ?_⟩
        have := unhide HV
        exact Classical.byContradiction fun hn => by have := this.2 hn; cases this
      · cases h
    · cases v
      · rfl
      · exact absurd h.2 ((unhide HV).1 rfl)
  · have d : decide ((h.len : Int) ≤ most) = false := by simpa using h200
    have B := hide (bAl (Below.refl w.heap.size w) (.cells #[.func (.func 20) #[] #[]] 58))
    have hst := @run_store Tryz.prog
    go_enter Tryz.func61, Tryz.ntmps61
    go_wp2_with fail
    go_ret
    have hle := unhide HL
    exact ⟨retB (b := false) ⟨fun h => (by cases h), fun h => absurd h.1 (by omega)⟩, unhide B⟩
set_option maxHeartbeats 400000 in
theorem every_Frag  (P : IE → Prop) (h : HdI) (l : List IE) (w : World) (hl : l.length ≤ maxLen) (hs : SqI w 0 h l)
    (q : ∀ x ∈ l, ∀ w' : World, Below w.heap.size w w' → Calls Tryz.prog 20 #[.iface x.T x.u] w' fun e w'' => RetB e (P x) ∧ Below w'.heap.size w' w'') :
    Calls Tryz.prog 40 #[.slice h.a h.len h.cap, .func (.func 20) #[] #[]] w fun e w' => RetB e (∀ x ∈ l, P x) ∧ Below w.heap.size w w' := by
  have Q := hide (goodList_Frag  P h.len h l w hl hs q)
  have HL := hide hs.1
  clear hs q hl
  go_enter Tryz.func40, Tryz.ntmps40
  go_wp2_with fail
  refine (unhide Q).mono ?_
  rintro e w1 ⟨⟨v, rfl, hv⟩, hb⟩
  have HV := hide hv
  clear hv Q
  go_wp2_with fail
  go_ret
  exact ⟨retB (b := v) ((unhide HV).trans ⟨fun h => h.2, fun h => ⟨by have := unhide HL; omega, h⟩⟩), hb⟩

set_option maxRecDepth 20000 in
set_option maxHeartbeats 1000000 in
theorem kidsOf_if (x y z : IE) (w : World) :
    Calls Tryz.prog 41 #[.iface 93 (.agg #[.iface x.T x.u, .iface y.T y.u, .iface z.T z.u])] w fun e w' => (∃ h : HdI, e = .returned (.slice h.a h.len h.cap) ∧ SqI w' 0 h [x, y, z]) ∧ Below w.heap.size w w' := by
  have f1 := ta_if_set (.agg #[.iface x.T x.u, .iface y.T y.u, .iface z.T z.u])
  have f2 := ta_if_get (.agg #[.iface x.T x.u, .iface y.T y.u, .iface z.T z.u])
  have f3 := ta_if_word (.agg #[.iface x.T x.u, .iface y.T y.u, .iface z.T z.u])
  have f4 := ta_if_sign (.agg #[.iface x.T x.u, .iface y.T y.u, .iface z.T z.u])
  have f5 := ta_if_pair (.agg #[.iface x.T x.u, .iface y.T y.u, .iface z.T z.u])
  have f6 := ta_if_if (.agg #[.iface x.T x.u, .iface y.T y.u, .iface z.T z.u])
  go_enter Tryz.func41, Tryz.ntmps41
  go_wp2_with fail
  go_ret
  have h := RowIs.new (w.alloc (.cells #[.iface x.T x.u, .iface y.T y.u, .iface z.T z.u] 93)) #[.iface x.T x.u, .iface y.T y.u, .iface z.T z.u] 55
  have hs : (w.alloc (.cells #[.iface x.T x.u, .iface y.T y.u, .iface z.T z.u] 93)).heap.size = w.heap.size + 1 := by simp
  rw [hs] at h
  refine ⟨⟨⟨some ⟨w.heap.size + 1, 0, none⟩, 3, 3⟩, rfl, rfl, .inr ⟨_, 0, rfl, h.lt, fun i hi => ?_⟩⟩, bAl (bAl (Below.refl _ _) _) _⟩
  match i, hi with
  | 0, _ => exact h.at rfl
  | 1, _ => exact h.at rfl
  | 2, _ => exact h.at rfl
end Go.Proofs.YteaidfighimoiaaGreat.V
/- Ids: impl.isId, spec.l7Id. -/
namespace Go.Proofs.YteaidfighimoiaaGreat
open Go.RowKit
set_option maxRecDepth 20000

def idcB (c : UInt8) : Bool := namB (c.toNat : Int) || digB (c.toNat : Int) || !((c.toNat : Int) != 45) || !((c.toNat : Int) != 46)
def idB (s : ByteArray) : Bool := decide (1 ≤ s.size ∧ s.size ≤ 40) && s.data.toList.all idcB
theorem nam_let (n : Int) : namB n = (letB n || !(n != 95)) := by
  rw [Bool.eq_iff_iff]
  simp [namB, letB]
theorem idB_size {s : ByteArray} (h : s.size < 1 ∨ 40 < s.size) : idB s = false := by
  unfold idB
  rw [decide_eq_false (by omega)]; rfl
theorem idB_of {s : ByteArray} (h1 : 1 ≤ s.size) (h2 : s.size ≤ 40) : idB s = s.data.toList.all idcB := by
  unfold idB
  rw [decide_eq_true (by omega)]; rfl

set_option maxHeartbeats 1000000 in
theorem isId_any (s : ByteArray) (hs : s.size ≤ maxLen) (w : World) :
    Calls Tryz.prog 34 #[.string s] w fun e w' => e = .returned (.bool (idB s)) ∧ Below w.heap.size w w' := by
  unfold maxLen at hs
  by_cases h1 : s.size < 1
  · have hg := hide (idB_size (s := s) (.inl h1))
    obtain rfl : s = ByteArray.empty := ByteArray.ext (Array.eq_empty_of_size_eq_zero (by show s.size = 0; omega))
    go_enter Tryz.func34, Tryz.ntmps34
    go_wp2
    go_ret
    exact ⟨ret_bool (unhide hg).symm, Below.refl _ _⟩
  have he := isEmpty_of h1
  by_cases h2 : 40 < s.size
  · have hg := hide (idB_size (s := s) (.inr h2))
    go_enter Tryz.func34, Tryz.ntmps34
    go_wp2
    go_ret
    exact ⟨ret_bool (unhide hg).symm, Below.refl _ _⟩
  have hg := hide (idB_of (s := s) (by omega) (by omega))
  have d2 : decide (40 < (s.size : Int)) = false := by simp; omega
  obtain ⟨cap, w1, hrun, hbel, hcell⟩ := conv_bytes s w
  go_enter Tryz.func34, Tryz.ntmps34
  go_wp2_with fail
  go_loop [15] (fun i => ∃ k : Nat, k ≤ s.size ∧ i = .int .i64 k ∧ Hid ((s.data.toList.take k).all idcB = true)) (fun i => s.size - (intOf i).toNat)
  case atStart => exact ⟨0, Nat.zero_le _, rfl, hide (by simp)⟩
  case round =>
    obtain ⟨k, hk, rfl, hall⟩ := hrel
    by_cases hlt : k < s.size
    · have hck := hcell k hlt
      have hok : idcB s[k] = (namB (s[k].toNat : Int) || digB (s[k].toNat : Int) || !((s[k].toNat : Int) != 45) || !((s[k].toNat : Int) != 46)) := rfl
      clear hcell hrun
      cases hl : namB (s[k].toNat : Int) <;> cases hdd : digB (s[k].toNat : Int) <;> cases h45 : ((s[k].toNat : Int) != 45) <;> cases h46 : ((s[k].toNat : Int) != 46)
      all_goals
        rw [hl, hdd, h45, h46] at hok
        have HL := hide hl
        have HD := hide hdd
        have HK := hide hok
        clear hl hdd hok
        go_wp2_with (first | (go_at_call 53; refine (startsName_any _ _).mono ?_; rintro e w' ⟨rfl, rfl⟩; rw [unhide HL]) | (go_at_call 54; refine (isDigit_any _ _).mono ?_; rintro e w' ⟨rfl, rfl⟩; rw [unhide HD]))
        first
          | exact ⟨⟨k + 1, by omega, by go_num, hide (by rw [all_take_succ _ _ _ hlt, unhide hall, unhide HK]; rfl)⟩, by simp [intOf]; omega⟩
          | (go_ret; exact ⟨ret_bool (by rw [unhide hg, all_false_of _ s k hlt (unhide HK)]), hbel⟩)
    · go_wp2
      go_ret
      have e : k = s.size := by omega
      subst e
      refine ⟨ret_bool ?_, hbel⟩
      rw [unhide hg, ← take_whole s, unhide hall]

set_option maxHeartbeats 1000000 in
theorem l7Id_any (s : ByteArray) (hs : s.size ≤ maxLen) (w : World) :
    Calls Tryz.prog 25 #[.string s] w fun e w' => e = .returned (.bool (idB s)) ∧ Below w.heap.size w w' := by
  unfold maxLen at hs
  go_enter Tryz.func25, Tryz.ntmps25
  go_wp2_with fail
  go_loop [3] (fun i => ∃ k : Nat, k ≤ s.size ∧ i = .int .i64 k ∧ Hid ((s.data.toList.take k).all idcB = true)) (fun i => s.size - (intOf i).toNat)
  case atStart => exact ⟨0, Nat.zero_le _, rfl, hide (by simp)⟩
  case round =>
    obtain ⟨k, hk, rfl, hall⟩ := hrel
    by_cases hlt : k < s.size
    · have hok : idcB s[k] = (letB (s[k].toNat : Int) || !((s[k].toNat : Int) != 95) || digB (s[k].toNat : Int) || !((s[k].toNat : Int) != 45) || !((s[k].toNat : Int) != 46)) := by unfold idcB; rw [nam_let]
      cases hl : letB (s[k].toNat : Int) <;> cases hdd : digB (s[k].toNat : Int) <;> cases h95 : ((s[k].toNat : Int) != 95) <;> cases h45 : ((s[k].toNat : Int) != 45) <;> cases h46 : ((s[k].toNat : Int) != 46)
      all_goals
        rw [hl, hdd, h95, h45, h46] at hok
        have HL := hide hl
        have HD := hide hdd
        have HK := hide hok
        clear hl hdd hok
        go_wp2_with (first | (go_at_call 44; refine (l1Letter_any _ _).mono ?_; rintro e w' ⟨rfl, rfl⟩; rw [unhide HL]) | (go_at_call 45; refine (l1Digit_any _ _).mono ?_; rintro e w' ⟨rfl, rfl⟩; rw [unhide HD]))
        first
          | exact ⟨⟨k + 1, by omega, by go_num, hide (by rw [all_take_succ _ _ _ hlt, unhide hall, unhide HK]; rfl)⟩, by simp [intOf]; omega⟩
          | (go_ret; exact ⟨ret_bool (by unfold idB; rw [all_false_of _ s k hlt (unhide HK), Bool.and_false]), Below.refl _ _⟩)
    · have e : k = s.size := by omega
      subst e
      have ha := hide (show s.data.toList.all idcB = true by rw [← take_whole s]; exact unhide hall)
      by_cases h1 : 1 ≤ s.size
      · by_cases h2 : s.size ≤ 40
        · go_wp2_with fail
          go_ret
          exact ⟨ret_bool (by rw [idB_of h1 h2, unhide ha]; exact decide_eq_true (by omega)), Below.refl _ _⟩
        · go_wp2_with fail
          go_ret
          exact ⟨ret_bool (by rw [idB_size (.inr (by omega))]; exact decide_eq_false (by omega)), Below.refl _ _⟩
      · go_wp2_with fail
        go_ret
        exact ⟨ret_bool (by rw [idB_size (.inl (by omega))]), Below.refl _ _⟩
end Go.Proofs.YteaidfighimoiaaGreat
