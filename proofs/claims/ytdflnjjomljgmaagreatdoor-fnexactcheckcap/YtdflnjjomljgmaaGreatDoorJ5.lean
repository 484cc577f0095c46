/- RPar, QName, one behind the other. -/
import Derived.Test.YtdflnjjomljgmaaGreatDoorJ4
import Derived.ProofKit
import Derived.Deep.Slices
import Derived.Laws.MakeOwn
import Derived.OwnWalk
import Derived.Test.YtdflnjjomljgmaaGreatDoorJ2
import Derived.Laws.IdiomStrings
import Derived.Laws.Closers25
/- Slices of impl.Param: in memory, read, sized, copied, held against each other. -/
namespace Go.Proofs.YtdflnjjomljgmaaGreatDoor.V
open Go.ChangeShapes Go.WideShapes Go.RowKit

structure ParamT where
  f0 : ByteArray
  f1 : Int
structure ParamT.Ok (x : ParamT) : Prop where
  o0 : x.f0.size ≤ maxLen
  o1 : (Lit.int .i64 x.f1).wf = true
def encParam (x : ParamT) : List Value := [.string x.f0, .int .i64 x.f1]
structure ParamRow (w : World) (b off : Nat) (l : List ParamT) : Prop where
  z : b < w.heap.size
  c0 : ∀ i (h : i < l.length), w.cell? ⟨b, off + i * 2, none⟩ = some (.string l[i].f0)
  c1 : ∀ i (h : i < l.length), w.cell? ⟨b, off + i * 2 + 1, none⟩ = some (.int .i64 l[i].f1)
theorem ParamRow.keep {w w1 : World} {b off : Nat} {l : List ParamT} (h : ParamRow w b off l) (hb : Below w.heap.size w w1) : ParamRow w1 b off l :=
  ⟨Nat.lt_of_lt_of_le h.z hb.size, fun i hi => cellB hb h.z (h.c0 i hi), fun i hi => cellB hb h.z (h.c1 i hi)⟩
def SlParam (w : World) (a : Option Addr) (len : Nat) (l : List ParamT) : Prop := len = l.length ∧ (l = [] ∨ ∃ b off, a = some ⟨b, off, none⟩ ∧ ParamRow w b off l)
theorem SlParam.keep {w w1 : World} {a : Option Addr} {len : Nat} {l : List ParamT} (h : SlParam w a len l) (hb : Below w.heap.size w w1) : SlParam w1 a len l :=
  ⟨h.1, by
    rcases h.2 with e | ⟨b, off, e, r⟩
    · exact .inl e
    · exact .inr ⟨b, off, e, r.keep hb⟩⟩
theorem SlParam.at {w : World} {a : Option Addr} {len : Nat} {l : List ParamT} (h : SlParam w a len l) {k : Nat} (hk : k < len) : ∃ b off, a = some ⟨b, off, none⟩ ∧ ParamRow w b off l := by
  rcases h.2 with e | e
  · rw [h.1, e] at hk; simp at hk
  · exact e
theorem bStParam {w w' : World} (h : Below w.heap.size w w') (b o : Nat) (hb : w.heap.size ≤ b) (v : Value) : Below w.heap.size w (w'.setCell ⟨b, o, none⟩ v) := h.setCell hb v
theorem info_Param : (Tryz.prog.info? 62).map (fun i => (i.zero, i.size, i.bytes)) = some (some (.agg #[.string ByteArray.empty, .int .i64 0]), 2, 24) := by kernel_rfl
theorem make_Param (len : Nat) (w : World) (h : len ≤ 1048576) : ∃ w1 C, (Instr.makeSlice 63 (.int .i64 (len : Int)) (.int .i64 (len : Int))).run Tryz.prog w = .ok (.slice (some ⟨w.heap.size, 0, none⟩) len len) w1 ∧
    Below w.heap.size w w1 ∧ RowIs w1 w.heap.size C 62 ∧ C.size = len * 2 := by
  obtain ⟨i, h1, h2⟩ := Option.map_eq_some_iff.1 info_Param
  simp only [Prod.mk.injEq] at h2
  obtain ⟨hz, hsz, hby⟩ := h2
  have hr := run_make (P := Tryz.prog) w 63 62 i _ Tryz.underlying63 h1 hz .i64 .i64 (len : Int) (len : Int) (by omega) (by omega) (by rw [hby]; omega) (by omega)
  rw [Int.toNat_natCast, hsz] at hr
  exact ⟨_, _, hr, bAl (Below.refl _ _) _, RowIs.new _ _ _, size_madeCells _ _⟩
def FilledParam (C : Array Value) (l : List ParamT) (k : Nat) : Prop := ∀ i (h : i < l.length), i < k → C[i * 2]? = some (.string l[i].f0) ∧ C[i * 2 + 1]? = some (.int .i64 l[i].f1)
def setParam (C : Array Value) (k : Nat) (x : ParamT) : Array Value := ((C.setIfInBounds (k * 2) (.string x.f0)).setIfInBounds (k * 2 + 1) (.int .i64 x.f1))
theorem size_setParam (C : Array Value) (k : Nat) (x : ParamT) : (setParam C k x).size = C.size := by simp [setParam]
theorem FilledParam.set {C : Array Value} {l : List ParamT} {k : Nat} (h : FilledParam C l k) (hk : k < l.length) (hC : C.size = l.length * 2) : FilledParam (setParam C k l[k]) l (k + 1) := by
  intro i hi hik
  unfold setParam
  by_cases e : i = k
  · subst e
    have s0 : i * 2 < C.size := by omega
    have s1 : i * 2 + 1 < C.size := by omega
    simp [s0, s1]
  · have := h i hi (by omega)
    simp only [Array.getElem?_setIfInBounds]
    repeat rw [if_neg (by omega)]
    exact this
theorem FilledParam.row {w : World} {b : Nat} {C : Array Value} {T : TypeId} {l : List ParamT} (h : FilledParam C l l.length) (hr : RowIs w b C T) : ParamRow w b 0 l :=
  ⟨hr.lt, fun i hi => by rw [Nat.zero_add, hr.cell]; exact (h i hi hi).1, fun i hi => by rw [Nat.zero_add, hr.cell]; exact (h i hi hi).2⟩
def ParamsV (l : List ParamT) : List Value := l.flatMap encParam
theorem ParamsV_snoc (l : List ParamT) (c : ParamT) : ParamsV (l ++ [c]) = ParamsV l ++ encParam c := by simp [ParamsV]
theorem encParam_one (c : ParamT) : ∀ x ∈ encParam c, x.oneCell' = true := by
  intro x hx
  simp [encParam] at hx
  rcases hx with rfl | rfl <;> rfl
theorem ParamsV_get : ∀ (l : List ParamT) (i : Nat) (h : i < l.length) (j : Nat) (v : Value), (encParam l[i])[j]? = some v → (ParamsV l)[i * 2 + j]? = some v
  | [], i, h, _, _, _ => absurd h (Nat.not_lt_zero _)
  | c :: l, 0, _, j, v, hv => by
    have hj := (List.getElem?_eq_some_iff.1 hv).1
    have e : ParamsV (c :: l) = encParam c ++ ParamsV l := by simp [ParamsV]
    rw [e, List.getElem?_append_left (by simpa using hj)]
    simpa using hv
  | c :: l, i + 1, h, j, v, hv => by
    have e : ParamsV (c :: l) = encParam c ++ ParamsV l := by simp [ParamsV]
    have hl : (encParam c).length = 2 := rfl
    rw [e, List.getElem?_append_right (by rw [hl]; omega), hl, show (i + 1) * 2 + j - 2 = i * 2 + j by omega]
    exact ParamsV_get l i (by simpa using h) j v (by simpa using hv)
theorem own_Param {w : World} {base : Nat} {v : Value} {l : List ParamT} (h : w.ownsRow base 62 2 v l.length (ParamsV l)) : ∃ a cap, v = .slice a l.length cap ∧ SlParam w a l.length l := by
  rcases h.2 with ⟨rfl, e⟩ | ⟨g, cap, cur, rfl, _, hh, _, _, hsz, htk⟩
  · have : l = [] := List.length_eq_zero_iff.1 e
    subst this
    exact ⟨none, 0, rfl, rfl, .inl rfl⟩
  · have hr : RowIs w g cur 62 := hh
    have hc : ∀ i (hi : i < l.length) j u, (encParam l[i])[j]? = some u → w.cell? ⟨g, 0 + i * 2 + j, none⟩ = some u := fun i hi j u hu => by
      have hu2 := ParamsV_get l i hi j u hu
      rw [← htk, List.getElem?_take] at hu2
      rw [Nat.zero_add, hr.cell, ← Array.getElem?_toList]
      split at hu2
      · exact hu2
      · cases hu2
    exact ⟨_, _, rfl, rfl, .inr ⟨g, 0, rfl, hr.lt, fun i hi => hc i hi 0 _ rfl, fun i hi => hc i hi 1 _ rfl⟩⟩
theorem listnParam {α : Type} {l : List α} (h : l.length = 2) : ∃ a0 a1, l = [a0, a1] := by
  match l, h with
  | [a0, a1], _ => exact ⟨a0, a1, rfl⟩
section
variable {H : Type} {enc : TypeId × Value → H} {w : World} {base : Nat} {sp : Nat → Bool} {held : Bool}
theorem addr_Param (b off k : Nat) : (⟨b, off, none⟩ : Addr).add k = ⟨b, off + k, none⟩ := by
  unfold Addr.add; split <;> simp_all
end
end Go.Proofs.YtdflnjjomljgmaaGreatDoor.V
/- NAMES: spec.GoodName, impl.GoodName. -/
namespace Go.Proofs.YtdflnjjomljgmaaGreatDoor
open Go.RowKit

theorem digB_getD (s : ByteArray) (h : 0 < s.size) : ((s.data.toList[0]?.getD 0).toNat : Int) = (s[0].toNat : Int) := by
  have : s.data.toList[0]? = some s[0] := by
    rw [List.getElem?_eq_getElem (by simpa using h)]; rfl
  rw [this]; rfl

theorem goodName_of {s : ByteArray} (h1 : 1 ≤ s.size) (h2 : s.size ≤ 30) : goodName s = (!digB (s[0].toNat : Int) && s.data.toList.all okcB) := by
  have e1 : s.data.toList.length = s.size := by simp
  unfold goodName nameL
  rw [e1, digB_getD s (by omega), decide_eq_true h1, decide_eq_true h2]; simp

theorem goodName_size {s : ByteArray} (h : s.size < 1 ∨ 30 < s.size) : goodName s = false := by
  have e1 : s.data.toList.length = s.size := by simp
  unfold goodName nameL
  rw [e1]
  rcases h with h | h
  · rw [decide_eq_false (by omega)]; simp
  · rw [decide_eq_false (p := s.size ≤ 30) (by omega)]; simp

set_option maxHeartbeats 400000 in
theorem sGoodName_any (s : ByteArray) (hs : s.size ≤ maxLen) (w : World) :
    Calls Tryz.prog 59 #[.string s] w fun e w' => e = .returned (.bool (goodName s)) ∧ w = w' := by
  unfold maxLen at hs
  by_cases h1 : s.size < 1
  · have hg := hide (goodName_size (s := s) (.inl h1))
    go_enter Tryz.func59, Tryz.ntmps59
    go_wp2
    go_ret
    exact ⟨ret_bool (unhide hg).symm, rfl⟩
  by_cases h2 : 30 < s.size
  · have hg := hide (goodName_size (s := s) (.inr h2))
    go_enter Tryz.func59, Tryz.ntmps59
    go_wp2
    go_ret
    exact ⟨ret_bool (unhide hg).symm, rfl⟩
  have hg0 := goodName_of (s := s) (by omega) (by omega)
  cases hd : digB (s[0].toNat : Int)
  · rw [hd] at hg0
    have hg := hide hg0
    have H := hide hd
    clear hd hg0
    have d1 : decide ((s.size : Int) < 1) = false := by simp; omega
    have d2 : decide (30 < (s.size : Int)) = false := by simp; omega
    go_enter Tryz.func59, Tryz.ntmps59
    go_wp2_with (go_at_call 62; refine (l1Digit_any _ _).mono ?_; rintro e w' ⟨rfl, rfl⟩; rw [unhide H])
    go_loop [3] (fun i => ∃ k : Nat, k ≤ s.size ∧ i = .int .i64 k ∧ Hid ((s.data.toList.take k).all okcB = true)) (fun i => s.size - (intOf i).toNat)
    case atStart => exact ⟨0, Nat.zero_le _, rfl, hide (by simp)⟩
    case round =>
      obtain ⟨k, hk, rfl, hall⟩ := hrel
      by_cases hlt : k < s.size
      · cases hl : letB (s[k].toNat : Int) <;> cases hdd : digB (s[k].toNat : Int) <;> cases hu : ((s[k].toNat : Int) != 95)
        all_goals
          have hok : okcB s[k] = ((letB (s[k].toNat : Int) || (s[k].toNat : Int) == 95) || digB (s[k].toNat : Int)) := by
            unfold okcB; congr 1; rw [Bool.eq_iff_iff]; simp [namB, letB]
          have hu' : ((s[k].toNat : Int) == 95) = !((s[k].toNat : Int) != 95) := by simp [bne]
          rw [hl, hdd, hu', hu] at hok
          have HL := hide hl
          have HD := hide hdd
          have HU := hide hu
          have HK := hide hok
          clear hl hdd hok hu'
          go_wp2_with (first | (go_at_call 61; refine (l1Letter_any _ _).mono ?_; rintro e w' ⟨rfl, rfl⟩; rw [unhide HL]) | (go_at_call 62; refine (l1Digit_any _ _).mono ?_; rintro e w' ⟨rfl, rfl⟩; rw [unhide HD]))
          first
            | exact ⟨⟨k + 1, by omega, by go_num, hide (by rw [all_take_succ _ _ _ hlt, unhide hall, unhide HK]; rfl)⟩, by simp [intOf]; omega⟩
            | (go_ret; exact ⟨ret_bool (by rw [unhide hg, all_false_of _ s k hlt (unhide HK)]; rfl), rfl⟩)
      · go_wp2
        go_ret
        have e : k = s.size := by omega
        subst e
        refine ⟨ret_bool ?_, rfl⟩
        rw [unhide hg, ← take_whole s, unhide hall]; rfl
  · rw [hd] at hg0
    have hg := hide hg0
    have H := hide hd
    clear hd hg0
    go_enter Tryz.func59, Tryz.ntmps59
    go_wp2_with (go_at_call 62; refine (l1Digit_any _ _).mono ?_; rintro e w' ⟨rfl, rfl⟩; rw [unhide H])
    go_ret
    exact ⟨ret_bool (by rw [unhide hg]; rfl), rfl⟩

theorem isEmpty_of {s : ByteArray} (h : ¬ s.size < 1) : s.toList.isEmpty = false := by
  rw [← decide_eq_emptyBytes]
  simp only [decide_eq_false_iff_not]
  intro e; subst e; exact h (by decide)

/-- '[]byte(s)': a new row of the call's own, its cells the bytes of s. -/
theorem conv_bytes (s : ByteArray) (w : World) : ∃ cap w1, (convert 9 22 (.string s)).run Tryz.prog w = .ok (.slice (some ⟨w.heap.size, 0, none⟩) s.size cap) w1 ∧ Below w.heap.size w w1 ∧
    ∀ j (h : j < s.size), w1.cell? ⟨w.heap.size, j, none⟩ = some (.int .u8 (s[j].toNat : Int)) := by
  refine ⟨_, _, run_bytes_of_string (P := Tryz.prog) w 9 22 5 s Tryz.underlying9 Tryz.underlying22 Tryz.underlying5, ((Below.refl _ _).drew).alloc (Nat.le_refl _) _, ?_⟩
  intro j h
  have h' : w.drew.heap.size = w.heap.size := rfl
  rw [← h', World.cell?_alloc_mark]
  unfold bytesRow
  rw [Array.getElem?_append_left (by simpa using h)]
  have h2 : j < s.data.size := h
  simp only [Array.getElem?_map, Array.getElem?_eq_getElem h2, Option.map_some]
  rfl

set_option maxRecDepth 8000 in
set_option maxHeartbeats 400000 in
theorem iGoodName_any (s : ByteArray) (hs : s.size ≤ maxLen) (w : World) :
    Calls Tryz.prog 76 #[.string s] w fun e w' => e = .returned (.bool (goodName s)) ∧ Below w.heap.size w w' := by
  unfold maxLen at hs
  by_cases h1 : s.size < 1
  · have hg := hide (goodName_size (s := s) (.inl h1))
    obtain rfl : s = ByteArray.empty := ByteArray.ext (Array.eq_empty_of_size_eq_zero (by show s.size = 0; omega))
    go_enter Tryz.func76, Tryz.ntmps76
    go_wp2
    go_ret
    exact ⟨ret_bool (unhide hg).symm, Below.refl _ _⟩
  have he := isEmpty_of h1
  by_cases h2 : 30 < s.size
  · have hg := hide (goodName_size (s := s) (.inr h2))
    go_enter Tryz.func76, Tryz.ntmps76
    go_wp2
    go_ret
    exact ⟨ret_bool (unhide hg).symm, Below.refl _ _⟩
  have hg0 := goodName_of (s := s) (by omega) (by omega)
  have d2 : decide (30 < (s.size : Int)) = false := by simp; omega
  cases hd : namB (s[0].toNat : Int)
  · have hg := hide hg0
    have H := hide hd
    clear hd hg0
    go_enter Tryz.func76, Tryz.ntmps76
    go_wp2_with (go_at_call 72; refine (startsName_any _ _).mono ?_; rintro e w' ⟨rfl, rfl⟩; rw [unhide H])
    go_ret
    refine ⟨ret_bool ?_, Below.refl _ _⟩
    rw [unhide hg]
    cases hdd : digB (s[0].toNat : Int)
    · rw [all_false_of okcB s 0 (by omega) (by unfold okcB; rw [unhide H, hdd]; rfl)]; rfl
    · rfl
  · have hg := hide hg0
    have H := hide hd
    clear hd hg0
    obtain ⟨cap, w1, hrun, hbel, hcell⟩ := conv_bytes s w
    go_enter Tryz.func76, Tryz.ntmps76
    go_wp2_with (go_at_call 72; refine (startsName_any _ _).mono ?_; rintro e w' ⟨rfl, rfl⟩; rw [unhide H])
    go_loop [21] (fun i => ∃ k : Nat, k ≤ s.size ∧ i = .int .i64 k ∧ Hid ((s.data.toList.take k).all okcB = true)) (fun i => s.size - (intOf i).toNat)
    case atStart => exact ⟨0, Nat.zero_le _, rfl, hide (by simp)⟩
    case round =>
      obtain ⟨k, hk, rfl, hall⟩ := hrel
      by_cases hlt : k < s.size
      · have hck := hcell k hlt
        have hok : okcB s[k] = (namB (s[k].toNat : Int) || digB (s[k].toNat : Int)) := rfl
        clear hcell hrun
        cases hl : namB (s[k].toNat : Int) <;> cases hdd : digB (s[k].toNat : Int)
        all_goals
          rw [hl, hdd] at hok
          have HL := hide hl
          have HD := hide hdd
          have HK := hide hok
          clear hl hdd hok
          go_wp2_with (first | (go_at_call 72; refine (startsName_any _ _).mono ?_; rintro e w' ⟨rfl, rfl⟩; rw [unhide HL]) | (go_at_call 73; refine (isDigit_any _ _).mono ?_; rintro e w' ⟨rfl, rfl⟩; rw [unhide HD]))
          first
            | exact ⟨⟨k + 1, by omega, by go_num, hide (by rw [all_take_succ _ _ _ hlt, unhide hall, unhide HK]; rfl)⟩, by simp [intOf]; omega⟩
            | (go_ret; exact ⟨ret_bool (by rw [unhide hg, all_false_of _ s k hlt (unhide HK)]; simp), hbel⟩)
      · go_wp2
        go_ret
        have e : k = s.size := by omega
        subst e
        refine ⟨ret_bool ?_, hbel⟩
        have hnd : digB (s[0].toNat : Int) = false := by
          have := unhide H
          simp only [namB, digB, decide_eq_true_eq, decide_eq_false_iff_not] at this ⊢; omega
        rw [unhide hg, hnd, ← take_whole s, unhide hall]; rfl
end Go.Proofs.YtdflnjjomljgmaaGreatDoor
