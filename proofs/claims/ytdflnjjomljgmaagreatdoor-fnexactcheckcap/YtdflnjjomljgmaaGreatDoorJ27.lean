/- TId, KGa, one behind the other. -/
import Derived.Test.YtdflnjjomljgmaaGreatDoorJ6
import Derived.Test.YtdflnjjomljgmaaGreatDoorJ20
import Derived.Test.YtdflnjjomljgmaaGreatDoorJ3
/- Ids: impl.isId, spec.l7Id. -/
namespace Go.Proofs.YtdflnjjomljgmaaGreatDoor
open Go.RowKit
set_option maxRecDepth 20000

def idcB (c : UInt8) : Bool := namB (c.toNat : Int) || digB (c.toNat : Int) || !((c.toNat : Int) != 45) || !((c.toNat : Int) != 46)
def idB (s : ByteArray) : Bool := decide (1 ≤ s.size ∧ s.size ≤ 40) && s.data.toList.all idcB
theorem nam_let (n : Int) : namB n = (letB n || !(n != 95)) := by
  rw [Bool.eq_iff_iff]
  simp [namB, letB]
theorem idB_size {s : ByteArray} (h : s.size < 1 ∨ 40 < s.size) : idB s = false := by
  unfold idB
  rw [decide_eq_false (by omega)]; rfl
theorem idB_of {s : ByteArray} (h1 : 1 ≤ s.size) (h2 : s.size ≤ 40) : idB s = s.data.toList.all idcB := by
  unfold idB
  rw [decide_eq_true (by omega)]; rfl

set_option maxHeartbeats 1000000 in
theorem isId_any (s : ByteArray) (hs : s.size ≤ maxLen) (w : World) :
    Calls Tryz.prog 50 #[.string s] w fun e w' => e = .returned (.bool (idB s)) ∧ Below w.heap.size w w' := by
  unfold maxLen at hs
  by_cases h1 : s.size < 1
  · have hg := hide (idB_size (s := s) (.inl h1))
    obtain rfl : s = ByteArray.empty := ByteArray.ext (Array.eq_empty_of_size_eq_zero (by show s.size = 0; omega))
    go_enter Tryz.func50, Tryz.ntmps50
    go_wp2
    go_ret
    exact ⟨ret_bool (unhide hg).symm, Below.refl _ _⟩
  have he := isEmpty_of h1
  by_cases h2 : 40 < s.size
  · have hg := hide (idB_size (s := s) (.inr h2))
    go_enter Tryz.func50, Tryz.ntmps50
    go_wp2
    go_ret
    exact ⟨ret_bool (unhide hg).symm, Below.refl _ _⟩
  have hg := hide (idB_of (s := s) (by omega) (by omega))
  have d2 : decide (40 < (s.size : Int)) = false := by simp; omega
  obtain ⟨cap, w1, hrun, hbel, hcell⟩ := conv_bytes s w
  go_enter Tryz.func50, Tryz.ntmps50
  go_wp2_with fail
  go_loop [15] (fun i => ∃ k : Nat, k ≤ s.size ∧ i = .int .i64 k ∧ Hid ((s.data.toList.take k).all idcB = true)) (fun i => s.size - (intOf i).toNat)
  case atStart => exact ⟨0, Nat.zero_le _, rfl, hide (by simp)⟩
  case round =>
    obtain ⟨k, hk, rfl, hall⟩ := hrel
    by_cases hlt : k < s.size
    · have hck := hcell k hlt
      have hok : idcB s[k] = (namB (s[k].toNat : Int) || digB (s[k].toNat : Int) || !((s[k].toNat : Int) != 45) || !((s[k].toNat : Int) != 46)) := rfl
      clear hcell hrun
      cases hl : namB (s[k].toNat : Int) <;> cases hdd : digB (s[k].toNat : Int) <;> cases h45 : ((s[k].toNat : Int) != 45) <;> cases h46 : ((s[k].toNat : Int) != 46)
      all_goals
        rw [hl, hdd, h45, h46] at hok
        have HL := hide hl
        have HD := hide hdd
        have HK := hide hok
        clear hl hdd hok
        go_wp2_with (first | (go_at_call 72; refine (startsName_any _ _).mono ?_; rintro e w' ⟨rfl, rfl⟩; rw [unhide HL]) | (go_at_call 73; refine (isDigit_any _ _).mono ?_; rintro e w' ⟨rfl, rfl⟩; rw [unhide HD]))
        first
          | exact ⟨⟨k + 1, by omega, by go_num, hide (by rw [all_take_succ _ _ _ hlt, unhide hall, unhide HK]; rfl)⟩, by simp [intOf]; omega⟩
          | (go_ret; exact ⟨ret_bool (by rw [unhide hg, all_false_of _ s k hlt (unhide HK)]), hbel⟩)
    · go_wp2
      go_ret
      have e : k = s.size := by omega
      subst e
      refine ⟨ret_bool ?_, hbel⟩
      rw [unhide hg, ← take_whole s, unhide hall]

set_option maxHeartbeats 1000000 in
theorem l7Id_any (s : ByteArray) (hs : s.size ≤ maxLen) (w : World) :
    Calls Tryz.prog 40 #[.string s] w fun e w' => e = .returned (.bool (idB s)) ∧ Below w.heap.size w w' := by
  unfold maxLen at hs
  go_enter Tryz.func40, Tryz.ntmps40
  go_wp2_with fail
  go_loop [3] (fun i => ∃ k : Nat, k ≤ s.size ∧ i = .int .i64 k ∧ Hid ((s.data.toList.take k).all idcB = true)) (fun i => s.size - (intOf i).toNat)
  case atStart => exact ⟨0, Nat.zero_le _, rfl, hide (by simp)⟩
  case round =>
    obtain ⟨k, hk, rfl, hall⟩ := hrel
    by_cases hlt : k < s.size
    · have hok : idcB s[k] = (letB (s[k].toNat : Int) || !((s[k].toNat : Int) != 95) || digB (s[k].toNat : Int) || !((s[k].toNat : Int) != 45) || !((s[k].toNat : Int) != 46)) := by unfold idcB; rw [nam_let]
      cases hl : letB (s[k].toNat : Int) <;> cases hdd : digB (s[k].toNat : Int) <;> cases h95 : ((s[k].toNat : Int) != 95) <;> cases h45 : ((s[k].toNat : Int) != 45) <;> cases h46 : ((s[k].toNat : Int) != 46)
      all_goals
        rw [hl, hdd, h95, h45, h46] at hok
        have HL := hide hl
        have HD := hide hdd
        have HK := hide hok
        clear hl hdd hok
        go_wp2_with (first | (go_at_call 61; refine (l1Letter_any _ _).mono ?_; rintro e w' ⟨rfl, rfl⟩; rw [unhide HL]) | (go_at_call 62; refine (l1Digit_any _ _).mono ?_; rintro e w' ⟨rfl, rfl⟩; rw [unhide HD]))
        first
          | exact ⟨⟨k + 1, by omega, by go_num, hide (by rw [all_take_succ _ _ _ hlt, unhide hall, unhide HK]; rfl)⟩, by simp [intOf]; omega⟩
          | (go_ret; exact ⟨ret_bool (by unfold idB; rw [all_false_of _ s k hlt (unhide HK), Bool.and_false]), Below.refl _ _⟩)
    · have e : k = s.size := by omega
      subst e
      have ha := hide (show s.data.toList.all idcB = true by rw [← take_whole s]; exact unhide hall)
      by_cases h1 : 1 ≤ s.size
      · by_cases h2 : s.size ≤ 40
        · go_wp2_with fail
          go_ret
          exact ⟨ret_bool (by rw [idB_of h1 h2, unhide ha]; exact decide_eq_true (by omega)), Below.refl _ _⟩
        · go_wp2_with fail
          go_ret
          exact ⟨ret_bool (by rw [idB_size (.inr (by omega))]; exact decide_eq_false (by omega)), Below.refl _ _⟩
      · go_wp2_with fail
        go_ret
        exact ⟨ret_bool (by rw [idB_size (.inl (by omega))]), Below.refl _ _⟩
end Go.Proofs.YtdflnjjomljgmaaGreatDoor
/- Good capabilities on both sides. -/
namespace Go.Proofs.YtdflnjjomljgmaaGreatDoor.V
open Go.RowKit
set_option maxRecDepth 20000

structure Hd where
  a : Option Addr
  len : Nat
  cap : Nat
def SqCavTermF (w : World) (_ : Nat) (h : Hd) (l : List CavTermT) : Prop := SlCavTerm w h.a h.len l
theorem SqCavTermF.keep {w w1 : World} {lo : Nat} {h : Hd} {l : List CavTermT} (k : SqCavTermF w lo h l) (hb : Below w.heap.size w w1) : SqCavTermF w1 lo h l := SlCavTerm.keep k hb
theorem SqCavTermF.at {w : World} {lo : Nat} {h : Hd} {l : List CavTermT} (q : SqCavTermF w lo h l) {k : Nat} (hk : k < h.len) : ∃ b off, h.a = some ⟨b, off, none⟩ ∧ CavTermRow w b off l := SlCavTerm.at q hk
/-- A good capability. -/
def GoodC (id : ByteArray) (T : List CavTermT) (n : Nat) : Prop := idB id = true ∧ ((T.length : Int) ≤ 20 ∧ ∀ x ∈ T, termB x = true) ∧ n = 16
theorem isCapTerm_b (x : CavTermT) (w : World) (ok : x.Ok) :
    Calls Tryz.prog 52 #[.agg #[.string x.f0, .int .i64 x.f1, .string x.f2, .int .i64 x.f3, .int .i64 x.f4, .string x.f5, .string x.f6]] w fun e w' => RetB e (termB x = true) ∧ Below w.heap.size w w' := by
  refine (isCapTerm_any x w ok).mono ?_
  rintro e w' ⟨rfl, hb⟩
  exact ⟨retB Iff.rfl, hb⟩
set_option maxHeartbeats 1000000 in
theorem notGood_CavTerm  (P : CavTermT → Prop) (b : Nat) (x : CavTermT) (w : World) (hc : w.cell? ⟨b, 0, none⟩ = some (.func (.func 52) #[] #[]))
    (q : ∀ w' : World, Below w.heap.size w w' → Calls Tryz.prog 52 #[.agg #[.string x.f0, .int .i64 x.f1, .string x.f2, .int .i64 x.f3, .int .i64 x.f4, .string x.f5, .string x.f6]] w' fun e w'' => RetB e (P x) ∧ Below w'.heap.size w' w'') :
    Calls Tryz.prog 75 #[.agg #[.string x.f0, .int .i64 x.f1, .string x.f2, .int .i64 x.f3, .int .i64 x.f4, .string x.f5, .string x.f6], .pointer (some ⟨b, 0, none⟩)] w fun e w' => RetB e (¬ P x) ∧ Below w.heap.size w w' := by
  have HB := hide (bAl (Below.refl w.heap.size w) (.cells #[.string x.f0, .int .i64 x.f1, .string x.f2, .int .i64 x.f3, .int .i64 x.f4, .string x.f5, .string x.f6] 58))
  have zb : b < w.heap.size := World.block_lt_of_cell? w ⟨b, 0, none⟩ hc
  have Q := hide (q _ (unhide HB))
  clear q
  go_enter Tryz.func75, Tryz.ntmps75
  go_wp2_with fail
  refine (unhide Q).mono ?_
  rintro e w1 ⟨⟨v, rfl, hv⟩, hb⟩
  have B1 := hide (bTr (unhide HB) hb)
  have HV := hide hv
  clear hb HB Q hc hv
  go_wp2_with fail
  go_ret
  refine ⟨retB (b := !v) ?_, unhide B1⟩
  rw [← unhide HV]; cases v <;> simp
set_option maxHeartbeats 1000000 in
theorem indexBad_CavTerm  (P : CavTermT → Prop) (b : Nat) (h : Hd) (l : List CavTermT) (w : World) (hl : l.length ≤ maxLen) (hs : SqCavTermF w 0 h l) (hc : w.cell? ⟨b, 0, none⟩ = some (.func (.func 52) #[] #[]))
    (q : ∀ x ∈ l, ∀ w' : World, Below w.heap.size w w' → Calls Tryz.prog 52 #[.agg #[.string x.f0, .int .i64 x.f1, .string x.f2, .int .i64 x.f3, .int .i64 x.f4, .string x.f5, .string x.f6]] w' fun e w'' => RetB e (P x) ∧ Below w'.heap.size w' w'') :
    Calls Tryz.prog 94 #[.slice h.a h.len h.cap, .func (.func 75) #[] #[.pointer (some ⟨b, 0, none⟩)]] w fun e w' => (∃ v : Int, e = .returned (.int .i64 v) ∧ (0 ≤ v ↔ ¬ ∀ x ∈ l, P x)) ∧ Below w.heap.size w w' := by
  have HS := hide hs
  have zb : b < w.heap.size := World.block_lt_of_cell? w ⟨b, 0, none⟩ hc
  have HC := hide (fun (w' : World) (h : Below w.heap.size w w') => cellB (w' := w') h zb hc)
  have HQ := hide q
  have HL := hide hs.1
  have hlm : h.len ≤ maxLen := by rw [hs.1]; exact hl
  unfold maxLen at hlm
  obtain ⟨a, len, cap⟩ := h
  simp only at hlm HL
  clear hs hc q hl
  go_enter Tryz.func94, Tryz.ntmps94
  go_wp2_with fail
  go_loopw [8] (fun i w' => ∃ k : Nat, k ≤ len ∧ i = .int .i64 k ∧ Hid (Below w.heap.size w w') ∧ Hid (∀ i (h : i < l.length), i < k → P l[i])) (fun i _ => len - (Go.RowKit.intOf i).toNat)
  case atStart => exact ⟨0, Nat.zero_le _, rfl, hide (Below.refl _ _), hide (fun i _ h => absurd h (Nat.not_lt_zero _))⟩
  case round =>
    obtain ⟨k, hk, rfl, hb, hA⟩ := hrel
    by_cases hlt : k < len
    · have hk' : k < l.length := by have := unhide HL; omega
      obtain ⟨bb_, off, e0, hrow⟩ := ((unhide HS).keep (unhide hb)).at hlt
      simp only at e0
      subst e0
      have c0 := hrow.c0 k hk'
      have c1 := hrow.c1 k hk'
      have c2 := hrow.c2 k hk'
      have c3 := hrow.c3 k hk'
      have c4 := hrow.c4 k hk'
      have c5 := hrow.c5 k hk'
      have c6 := hrow.c6 k hk'
      have zk := hrow.z
      have q := hide (notGood_CavTerm  P b l[k] wr (unhide HC _ (unhide hb)) (fun w' h => unhide HQ _ (List.getElem_mem hk') w' (bTr (unhide hb) h)))
      have eS : Hid (P l[k] → ∀ i (h : i < l.length), i < k + 1 → P l[i]) := hide (fun g i hi h1 => by
        rcases Nat.lt_or_ge i k with h2 | h2
        · exact unhide hA i hi h2
        · obtain rfl : i = k := by omega
          exact g)
      have eN : Hid (¬ P l[k] → ¬ ∀ x ∈ l, P x) := hide (fun g h => g (h _ (List.getElem_mem hk')))
      clear hrow
      generalize l[k] = A at *
      go_wp2_with fail
      refine (unhide q).mono ?_
      rintro e w1 ⟨⟨v, rfl, hv⟩, hb1⟩
      have B1 := hide (bTr (unhide hb) hb1)
      have HV := hide hv
      clear hb1 q hv c0 c1 c2 c3 c4 c5 c6
      cases v
      · have S := hide (unhide eS (Classical.byContradiction fun h => by have := (unhide HV).2 h; cases this))
        clear eS eN HV
        go_wp2_with fail
        exact ⟨⟨k + 1, by omega, by go_num, B1, S⟩, by simp [Go.RowKit.intOf]; omega⟩
      · have N := hide (unhide eN ((unhide HV).1 rfl))
        clear eS eN HV
        go_wp2_with fail
        go_ret
        exact ⟨⟨_, rfl, fun _ => unhide N, fun _ => by omega⟩, unhide B1⟩
    · have S : Hid (∀ x ∈ l, P x) := hide (fun x hx => by
        obtain ⟨i, hi, rfl⟩ := List.getElem_of_mem hx
        exact unhide hA i hi (by have := unhide HL; omega))
      go_wp2_with fail
      go_ret
      exact ⟨⟨_, rfl, fun h => absurd h (by decide), fun h => absurd (unhide S) h⟩, unhide hb⟩
set_option maxHeartbeats 1000000 in
theorem goodList_CavTerm  (P : CavTermT → Prop) (most : Int) (h : Hd) (l : List CavTermT) (w : World) (hl : l.length ≤ maxLen) (hs : SqCavTermF w 0 h l)
    (q : ∀ x ∈ l, ∀ w' : World, Below w.heap.size w w' → Calls Tryz.prog 52 #[.agg #[.string x.f0, .int .i64 x.f1, .string x.f2, .int .i64 x.f3, .int .i64 x.f4, .string x.f5, .string x.f6]] w' fun e w'' => RetB e (P x) ∧ Below w'.heap.size w' w'') :
    Calls Tryz.prog 51 #[.slice h.a h.len h.cap, .int .i64 most, .func (.func 52) #[] #[]] w fun e w' => RetB e ((l.length : Int) ≤ most ∧ ∀ x ∈ l, P x) ∧ Below w.heap.size w w' := by
  have HS := hide hs
  have HQ := hide q
  have HL := hide hs.1
  have HM := hide hl
  clear hs q hl
  by_cases h200 : (h.len : Int) ≤ most
  · obtain ⟨W, hW⟩ : ∃ W, W = w.alloc (.cells #[.func (.func 52) #[] #[]] 79) := ⟨_, rfl⟩
    have R := show RowIs W w.heap.size #[.func (.func 52) #[] #[]] 79 by rw [hW]; exact RowIs.new _ _ _
    have B := hide (show Below w.heap.size w W by rw [hW]; exact bAl (Below.refl _ _) _)
    have HW := hide hW.symm
    clear hW
    have q := hide (fun hc => indexBad_CavTerm  P w.heap.size h l W (unhide HM) ((unhide HS).keep (unhide B)) hc (fun x hx w' h => unhide HQ x hx w' (bTr (unhide B) h)))
    have q2 : Hid (Calls Tryz.prog 74 #[.slice h.a h.len h.cap, .func (.func 75) #[] #[.pointer (some ⟨w.heap.size, 0, none⟩)]] W fun e w' => (∃ v : Bool, e = .returned (.bool v) ∧ (v = true ↔ ¬ ∀ x ∈ l, P x)) ∧ Below W.heap.size W w') := hide (by
      have q := hide (unhide q (R.at (o := 0) rfl))
      go_enter Tryz.func74, Tryz.ntmps74
      go_wp2_with fail
      refine (unhide q).mono ?_
      rintro e w1 ⟨⟨v, rfl, hv⟩, hb⟩
      have HV := hide hv
      clear hv
      go_wp2_with fail
      go_ret
      exact ⟨⟨decide (0 ≤ v), rfl, by rw [decide_eq_true_iff]; exact unhide HV⟩, hb⟩)
    have hst := @run_store Tryz.prog
    clear q R
    go_enter Tryz.func51, Tryz.ntmps51
    go_wp2_with fail
    rw [unhide HW]
    refine (unhide q2).mono ?_
    rintro e w1 ⟨⟨v, rfl, hv⟩, hb⟩
    have HV := hide hv
    have B1 := hide (bTr (unhide B) hb)
    clear hv hb q2 hst HW B
    go_wp2_with fail
    go_ret
    have hle := unhide HL
    refine ⟨retB (b := !v) ⟨fun h => ?_, fun h => ?_⟩, unhide B1⟩
    · cases v
      · refine ⟨by omega, ?_⟩
        have := unhide HV
        exact Classical.byContradiction fun hn => by have := this.2 hn; cases this
      · cases h
    · cases v
      · rfl
      · exact absurd h.2 ((unhide HV).1 rfl)
  · have d : decide ((h.len : Int) ≤ most) = false := by simpa using h200
    have B := hide (bAl (Below.refl w.heap.size w) (.cells #[.func (.func 52) #[] #[]] 79))
    have hst := @run_store Tryz.prog
    go_enter Tryz.func51, Tryz.ntmps51
    go_wp2_with fail
    go_ret
    have hle := unhide HL
    exact ⟨retB (b := false) ⟨fun h => (by cases h), fun h => absurd h.1 (by omega)⟩, unhide B⟩
abbrev capV (id : ByteArray) (at' ag : Option Addr) (lt ct lg cg : Nat) : Value := .agg #[.string id, .slice at' lt ct, .slice ag lg cg]
abbrev capC (id : ByteArray) (at' ag : Option Addr) (lt ct lg cg : Nat) : Array Value := #[.string id, .slice at' lt ct, .slice ag lg cg]
set_option maxHeartbeats 2000000 in
theorem isGood_any (id : ByteArray) (at' ag : Option Addr) (lt ct lg cg : Nat) (T : List CavTermT) (w : World) (hid : id.size ≤ maxLen) (hl : T.length ≤ maxLen) (hs : SlCavTerm w at' lt T) (ok : ∀ q ∈ T, CavTermT.Ok q) :
    Calls Tryz.prog 30 #[capV id at' ag lt ct lg cg] w fun e w' => RetB e (GoodC id T lg) ∧ Below w.heap.size w w' := by
  have q0 := hide (fun w => isId_any id hid w)
  have q1 := hide (fun w (hs : SlCavTerm w at' lt T) => goodList_CavTerm (fun x => termB x = true) 20 ⟨at', lt, ct⟩ T w hl hs (fun x hx w' _ => isCapTerm_b x w' (ok x hx)))
  have HP : Hid (GoodC id T lg ↔ (idB id = true ∧ ((T.length : Int) ≤ 20 ∧ ∀ x ∈ T, termB x = true) ∧ lg = 16)) := hide Iff.rfl
  obtain ⟨W, hW⟩ : ∃ W, W = w.alloc (.cells (capC id at' ag lt ct lg cg) 38) := ⟨_, rfl⟩
  have B := hide (show Below w.heap.size w W by rw [hW]; exact bAl (Below.refl _ _) _)
  have R := hide (show RowIs W w.heap.size (capC id at' ag lt ct lg cg) 38 by rw [hW]; exact RowIs.new _ _ _)
  have S := hide (hs.keep (unhide B))
  have HW := hide hW.symm
  clear hW hs hid hl ok
  generalize GoodC id T lg = GP at HP ⊢
  generalize idB id = b1 at q0 HP
  generalize ((T.length : Int) ≤ 20 ∧ ∀ x ∈ T, termB x = true) = LP at q1 HP
  have x0 := (unhide R).at (o := 0) (v := .string id) rfl
  go_enter Tryz.func30, Tryz.ntmps30
  go_wp2_with fail
  rw [unhide HW]
  refine (unhide q0 _).mono ?_
  rintro e w1 ⟨rfl, hb⟩
  have B1 := hide (bTr (unhide B) hb)
  have R1 := hide ((unhide R).keep hb)
  have S1 := hide ((unhide S).keep hb)
  clear hb x0 R S B q0 HW
  cases b1
  · go_wp2_with fail
    go_ret
    exact ⟨retB (b := false) ⟨fun h => (by cases h), fun h => absurd ((unhide HP).1 h).1 (by simp)⟩, unhide B1⟩
  have x1 := (unhide R1).at (o := 1) (v := .slice at' lt ct) rfl
  go_wp2_with fail
  refine (unhide q1 _ (unhide S1)).mono ?_
  rintro e w2 ⟨⟨u, rfl, hu⟩, hb⟩
  have B2 := hide (bTr (unhide B1) hb)
  have R2 := hide ((unhide R1).keep hb)
  have HU := hide hu
  clear hb hu x1 R1 S1 B1 q1
  cases u
  · go_wp2_with fail
    go_ret
    exact ⟨retB (b := false) ⟨fun h => (by cases h), fun h => absurd ((unhide HU).2 ((unhide HP).1 h).2.1) (by simp)⟩, unhide B2⟩
  have x2 := (unhide R2).at (o := 2) (v := .slice ag lg cg) rfl
  have HU2 := hide ((unhide HU).1 (by trivial))
  clear HU
  go_wp2_with fail
  go_ret
  exact ⟨retB (by rw [unhide HP]; exact ⟨fun h => ⟨by trivial, unhide HU2, by simp at h; omega⟩, fun h => by have := h.2.2; simp; omega⟩), unhide B2⟩
set_option maxHeartbeats 2000000 in
theorem l17Good_any (id : ByteArray) (at' ag : Option Addr) (lt ct lg cg : Nat) (T : List CavTermT) (w : World) (hid : id.size ≤ maxLen) (hl : lt ≤ 1048576) (hs : SlCavTerm w at' lt T) (ok : ∀ q ∈ T, CavTermT.Ok q) :
    Calls Tryz.prog 19 #[capV id at' ag lt ct lg cg] w fun e w' => RetB e (GoodC id T lg) ∧ Below w.heap.size w w' := by
  have q0 := hide (fun w => l7Id_any id hid w)
  have HP : Hid (GoodC id T lg ↔ (idB id = true ∧ ((T.length : Int) ≤ 20 ∧ ∀ x ∈ T, termB x = true) ∧ lg = 16)) := hide Iff.rfl
  obtain ⟨W, hW⟩ : ∃ W, W = w.alloc (.cells (capC id at' ag lt ct lg cg) 38) := ⟨_, rfl⟩
  have B := hide (show Below w.heap.size w W by rw [hW]; exact bAl (Below.refl _ _) _)
  have R := hide (show RowIs W w.heap.size (capC id at' ag lt ct lg cg) 38 by rw [hW]; exact RowIs.new _ _ _)
  have S := hide (hs.keep (unhide B))
  have HW := hide hW.symm
  have HLL := hide hs.1
  have HO := hide ok
  clear hW hs hid ok
  generalize GoodC id T lg = GP at HP ⊢
  have x1 := (unhide R).at (o := 1) (v := .slice at' lt ct) rfl
  go_enter Tryz.func19, Tryz.ntmps19
  go_wp2_with fail
  rw [unhide HW]
  clear HW x1
  go_loopw [8] (fun i w' => ∃ k : Nat, k ≤ lt ∧ i = .int .i64 k ∧ Hid (Below W.heap.size W w') ∧ Hid (∀ j (h : j < T.length), j < k → termB T[j] = true)) (fun i _ => lt - (Go.RowKit.intOf i).toNat)
  case atStart => exact ⟨0, Nat.zero_le _, rfl, hide (Below.refl _ _), hide (fun j _ h => absurd h (by omega))⟩
  case round =>
    obtain ⟨k, hk, rfl, hb, hA⟩ := hrel
    by_cases hlt : k < lt
    · have hk' : k < T.length := by have := unhide HLL; omega
      obtain ⟨bb_, off, e0, hrow⟩ := ((unhide S).keep (unhide hb)).at hlt
      subst e0
      have c0 := hrow.c0 k hk'
      have c1 := hrow.c1 k hk'
      have c2 := hrow.c2 k hk'
      have c3 := hrow.c3 k hk'
      have c4 := hrow.c4 k hk'
      have c5 := hrow.c5 k hk'
      have c6 := hrow.c6 k hk'
      have zk := hrow.z
      have q := hide (fun w => l17Term_any T[k] w (unhide HO _ (List.getElem_mem hk')))
      have NO : Hid (¬ termB T[k] = true → ¬ GP) := hide (fun h g => h (((unhide HP).1 g).2.1.2 _ (List.getElem_mem hk')))
      have YES : Hid (termB T[k] = true → ∀ j (h : j < T.length), j < k + 1 → termB T[j] = true) := hide (fun h j hj h1 => by
        rcases Nat.lt_or_ge j k with h2 | h2
        · exact unhide hA j hj h2
        · obtain rfl : j = k := by omega
          exact h)
      clear hrow hA
      generalize termB T[k] = tb at q NO YES
      generalize T[k] = A at *
      obtain ⟨W2, hW2⟩ : ∃ W2, W2 = wr.alloc (.cells #[.string A.f0, .int .i64 A.f1, .string A.f2, .int .i64 A.f3, .int .i64 A.f4, .string A.f5, .string A.f6] 58) := ⟨_, rfl⟩
      have bW := hide (show Below wr.heap.size wr W2 by rw [hW2]; exact bAl (Below.refl _ _) _)
      have R2 := show RowIs W2 wr.heap.size #[.string A.f0, .int .i64 A.f1, .string A.f2, .int .i64 A.f3, .int .i64 A.f4, .string A.f5, .string A.f6] 58 by rw [hW2]; exact RowIs.new _ _ _
      have HW2 := hide hW2.symm
      have x0 := R2.at (o := 0) (v := .string A.f0) rfl
      have x1 := R2.at (o := 1) (v := .int .i64 A.f1) rfl
      have x2 := R2.at (o := 2) (v := .string A.f2) rfl
      have x3 := R2.at (o := 3) (v := .int .i64 A.f3) rfl
      have x4 := R2.at (o := 4) (v := .int .i64 A.f4) rfl
      have x5 := R2.at (o := 5) (v := .string A.f5) rfl
      have x6 := R2.at (o := 6) (v := .string A.f6) rfl
      have zx := R2.lt
      clear hW2 R2
      go_upto_region 4 with fail
      rw [unhide HW2]
      clear HW2 c0 c1 c2 c3 c4 c5 c6 zk
      go_wp2_with fail
      refine (unhide q _).mono ?_
      rintro e w3 ⟨rfl, hb3⟩
      have B3 := hide (bTr (unhide hb) (bTr (unhide bW) hb3))
      clear hb3 bW hb q x0 x1 x2 x3 x4 x5 x6 zx
      cases tb
      · go_wp2_with fail
        go_ret
        exact ⟨retB (b := false) ⟨fun h => (by cases h), fun h => absurd h (unhide NO (by simp))⟩, bTr (unhide B) (unhide B3)⟩
      · go_wp2_with fail
        exact ⟨⟨k + 1, by omega, by go_num, B3, hide (unhide YES (by trivial))⟩, by simp [Go.RowKit.intOf]; omega⟩
    · have hA2 := hide (show ∀ x ∈ T, termB x = true from fun x hx => by
        obtain ⟨i, hi, rfl⟩ := List.getElem_of_mem hx
        exact unhide hA i hi (by have := unhide HLL; omega))
      clear hA
      have R3 := hide ((unhide R).keep (unhide hb))
      have B3 := hide (bTr (unhide B) (unhide hb))
      have x0 := (unhide R3).at (o := 0) (v := .string id) rfl
      clear R hb B S
      generalize idB id = b1 at q0 HP
      go_wp2_with fail
      refine (unhide q0 _).mono ?_
      rintro e w4 ⟨rfl, hb4⟩
      have R4 := hide ((unhide R3).keep hb4)
      have B4 := hide (bTr (unhide B3) hb4)
      clear hb4 x0 R3 B3 q0
      cases b1
      · go_wp2_with fail
        go_ret
        exact ⟨retB (b := false) ⟨fun h => (by cases h), fun h => absurd ((unhide HP).1 h).1 (by simp)⟩, unhide B4⟩
      have x1 := (unhide R4).at (o := 1) (v := .slice at' lt ct) rfl
      have x2 := (unhide R4).at (o := 2) (v := .slice ag lg cg) rfl
      by_cases h20 : lt ≤ 20
      · have H20 := hide h20
        go_wp2_with fail
        go_ret
        exact ⟨retB (by rw [unhide HP]; exact ⟨fun h => ⟨by trivial, ⟨by have := unhide HLL; have := unhide H20; omega, unhide hA2⟩, by simp at h; omega⟩, fun h => by have := h.2.2; simp; omega⟩), unhide B4⟩
      · have H20 := hide h20
        go_wp2_with fail
        go_ret
        exact ⟨retB (b := false) ⟨fun h => (by cases h), fun h => absurd ((unhide HP).1 h).2.1.1 (by have := unhide HLL; have := unhide H20; omega)⟩, unhide B4⟩
end Go.Proofs.YtdflnjjomljgmaaGreatDoor.V
