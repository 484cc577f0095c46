/- An event of a recovery by the specification. -/
import Derived.Test.YtjmpakpodhbbpaaKWi
import Derived.BigRegion
import Derived.Deep.AppendLies
import Derived.Deep.RegionLawGrows
namespace Go.Proofs.Ytjmpakpodhbbpaa
set_option linter.unusedSimpArgs false
set_option linter.unusedVariables false
set_option maxRecDepth 20000
open Go.RowKit Go.Maps


structure SpAt (w : World) (b : Nat) (x : RcT) (v : Value) : Prop where
  box : RowIs w b #[.int .i64 x.now, .bool x.under, .int .i64 x.ready, v] 52
  own : w.ownsRow (b + 1) 9 1 v x.votes.length (x.votes.map Value.string)
theorem SpAt.keep {w w' : World} {b : Nat} {x : RcT} {v : Value} (h : SpAt w b x v) (hb : Below w.heap.size w w') : SpAt w' b x v :=
  ⟨h.box.keep hb, own_blk h.own (fun g hg => hb.block g (h.own.lt g hg).2)⟩
/-- All but the box, the votes' row and what is new is as it was. -/
structure TcS (b : Nat) (v : Value) (w w' : World) : Prop where
  os : w'.os = w.os
  tape : w'.tape = w.tape
  output : w'.output = w.output
  size : w.heap.size ≤ w'.heap.size
  block : ∀ g, g < w.heap.size → g ≠ b → v.ownBlock ≠ some g → w'.heap[g]? = w.heap[g]?
theorem TcS.of {b : Nat} {v : Value} {w w' : World} (h : Below w.heap.size w w') : TcS b v w w' := ⟨h.os, h.tape, h.output, h.size, fun g hg _ _ => h.block g hg⟩
theorem TcS.setB (b : Nat) (v : Value) (w : World) (o : Nat) (u : Value) : TcS b v w (w.setCell ⟨b, o, none⟩ u) :=
  ⟨rfl, rfl, rfl, by simp [World.setCell], fun g hg h1 _ => heap_setCell_other w ⟨b, o, none⟩ g u h1⟩
theorem TcS.trans {b : Nat} {v u : Value} {w w1 w2 : World} (h : TcS b v w w1) (k : TcS b u w1 w2) (hm : ∀ g, u.ownBlock = some g → v.ownBlock = some g ∨ w.heap.size ≤ g) : TcS b v w w2 :=
  ⟨k.os.trans h.os, k.tape.trans h.tape, k.output.trans h.output, Nat.le_trans h.size k.size, fun g hg h1 h2 => by
    rw [k.block g (Nat.lt_of_lt_of_le hg h.size) h1 (fun e => by
      rcases hm g e with h3 | h3
      · exact h2 h3
      · omega)]
    exact h.block g hg h1 h2⟩
theorem TcS.grown {b : Nat} {v : Value} {w w' : World} (h : w.grownBy w' v.ownBlock) : TcS b v w w' := ⟨h.os, h.tape, h.output, h.size, fun g hg _ h2 => h.block g hg (fun e => h2 e.symm)⟩
def SpEnd (b : Nat) (v : Value) (x' : RcT) (w w' : World) : Prop := (∃ v', SpAt w' b x' v' ∧ ∀ g, v'.ownBlock = some g → v.ownBlock = some g ∨ w.heap.size ≤ g) ∧ TcS b v w w'
theorem SpEnd.same {b : Nat} {v : Value} {x : RcT} {w w' : World} (h : SpAt w b x v) (hb : Below w.heap.size w w') : SpEnd b v x w w' := ⟨⟨v, h.keep hb, fun g e => .inl e⟩, TcS.of hb⟩
theorem slV {w : World} {a : Option Addr} {len : Nat} {l : List ByteArray} (h : SlS w a len l) : V.SlS w a len l :=
  ⟨h.1, h.2.imp id fun ⟨b, off, e, r⟩ => ⟨b, off, e, r.z, r.c⟩⟩
theorem rcFault_is {x : RcT} {k t : Int} {s : ByteArray} (i : Nat) (hi : i < 7) (hy : rcB x k t s i = true) (hm : ∀ j, j < i → rcB x k t s j = false) : rcFault x k t s = i + 1 := by
  have := FstIs.fault (x := x) (k := k) (t := t) (s := s) (r := (i : Int)) ⟨(fun h => by have := h i hi; rw [hy] at this; cases this), (fun j hj hy' hm' => by
    rcases Nat.lt_trichotomy i j with h | h | h
    · have := hm' i h; rw [hy] at this; cases this
    · rw [h]
    · have := hm j h; rw [hy'] at this; cases this)⟩
  omega
theorem rcFault_none {x : RcT} {k t : Int} {s : ByteArray} (h : ∀ i, i < 7 → rcB x k t s i = false) : rcFault x k t s = 0 := by
  have := FstIs.fault (x := x) (k := k) (t := t) (s := s) (r := -1) ⟨(fun _ => rfl), (fun i hi hy _ => by have := h i hi; rw [hy] at this; cases this)⟩
  omega
def SdoIs (x : RcT) (k t : Int) (s : ByteArray) (b : Nat) (v : Value) (ha : Option Addr) (hl hc : Nat) (w : World) : Prop :=
  Calls Try.prog 18 #[.pointer (some ⟨b, 0, none⟩), .int .i64 x.need, .int .i64 x.delay, .slice ha hl hc, .agg #[.int .i64 k, .int .i64 t, .string s]] w fun e w' => e = .returned (.int .i64 (rcFault x k t s)) ∧ SpEnd b v (rcNext x k t s) w w'
set_option maxHeartbeats 4000000 in
theorem sdo_u1 {b : Nat} {x : RcT} {v : Value} (k t : Int) (s : ByteArray) (ha : Option Addr) (hl hc : Nat) (w : World) (h : SpAt w b x v) (g1 : k < 1) : SdoIs x k t s b v ha hl hc w := by
  unfold SdoIs
  have EF := hide (show rcFault x k t s = 1 from rcFault_is 0 (by omega) (by simp [rcB, unfE]; omega) (fun j hj => by omega))
  have EX := hide (show rcNext x k t s = x from rcNext_bad (by rw [unhide EF]; omega))
  obtain ⟨W2, hW2⟩ : ∃ W, W = w.alloc (.cells #[.int .i64 k, .int .i64 t, .string s] 31) := ⟨_, rfl⟩
  have b2 : Below w.heap.size w W2 := by rw [hW2]; exact bAl (Below.refl _ _) _
  have R2 := hide (show RowIs W2 w.heap.size #[.int .i64 k, .int .i64 t, .string s] 31 by rw [hW2]; exact RowIs.new _ _ _)
  have z2 := hide (show W2.heap.size = w.heap.size + 1 by rw [hW2]; simp)
  have h2 := hide (h.keep b2)
  have H0 := hide h
  have nb := h.box.lt
  have B2 := hide b2
  have HW := hide hW2.symm
  have e0 := (unhide R2).at (o := 0) (v := .int .i64 k) rfl
  have e1 := (unhide R2).at (o := 1) (v := .int .i64 t) rfl
  have e2 := (unhide R2).at (o := 2) (v := .string s) rfl
  have ez := (unhide R2).lt
  have c0 := (unhide h2).box.at (o := 0) (v := .int .i64 x.now) rfl
  have c1 := (unhide h2).box.at (o := 1) (v := .bool x.under) rfl
  have c2 := (unhide h2).box.at (o := 2) (v := .int .i64 x.ready) rfl
  have c3 := (unhide h2).box.at (o := 3) (v := v) rfl
  have cz := (unhide h2).box.lt
  clear hW2 b2 h
  go_enter Try.func18, Try.ntmps18
  go_upto_region 1 with fail
  rw [unhide HW]
  clear HW
  go_wp2_with fail
  go_ret
  rw [unhide EF, unhide EX]
  exact ⟨rfl, SpEnd.same (unhide H0) (unhide B2)⟩
set_option maxHeartbeats 4000000 in
theorem sdo_u2 {b : Nat} {x : RcT} {v : Value} (k t : Int) (s : ByteArray) (ha : Option Addr) (hl hc : Nat) (w : World) (h : SpAt w b x v) (g1 : ¬ k < 1) (g2 : 4 < k) : SdoIs x k t s b v ha hl hc w := by
  unfold SdoIs
  have EF := hide (show rcFault x k t s = 1 from rcFault_is 0 (by omega) (by simp [rcB, unfE]; omega) (fun j hj => by omega))
  have EX := hide (show rcNext x k t s = x from rcNext_bad (by rw [unhide EF]; omega))
  obtain ⟨W2, hW2⟩ : ∃ W, W = w.alloc (.cells #[.int .i64 k, .int .i64 t, .string s] 31) := ⟨_, rfl⟩
  have b2 : Below w.heap.size w W2 := by rw [hW2]; exact bAl (Below.refl _ _) _
  have R2 := hide (show RowIs W2 w.heap.size #[.int .i64 k, .int .i64 t, .string s] 31 by rw [hW2]; exact RowIs.new _ _ _)
  have z2 := hide (show W2.heap.size = w.heap.size + 1 by rw [hW2]; simp)
  have h2 := hide (h.keep b2)
  have H0 := hide h
  have nb := h.box.lt
  have B2 := hide b2
  have HW := hide hW2.symm
  have e0 := (unhide R2).at (o := 0) (v := .int .i64 k) rfl
  have e1 := (unhide R2).at (o := 1) (v := .int .i64 t) rfl
  have e2 := (unhide R2).at (o := 2) (v := .string s) rfl
  have ez := (unhide R2).lt
  have c0 := (unhide h2).box.at (o := 0) (v := .int .i64 x.now) rfl
  have c1 := (unhide h2).box.at (o := 1) (v := .bool x.under) rfl
  have c2 := (unhide h2).box.at (o := 2) (v := .int .i64 x.ready) rfl
  have c3 := (unhide h2).box.at (o := 3) (v := v) rfl
  have cz := (unhide h2).box.lt
  clear hW2 b2 h
  go_enter Try.func18, Try.ntmps18
  go_upto_region 1 with fail
  rw [unhide HW]
  clear HW
  go_wp2_with fail
  go_ret
  rw [unhide EF, unhide EX]
  exact ⟨rfl, SpEnd.same (unhide H0) (unhide B2)⟩
set_option maxHeartbeats 4000000 in
theorem sdo_u3 {b : Nat} {x : RcT} {v : Value} (k t : Int) (s : ByteArray) (ha : Option Addr) (hl hc : Nat) (w : World) (h : SpAt w b x v) (g1 : ¬ k < 1) (g2 : ¬ 4 < k) (g3 : t < 0) : SdoIs x k t s b v ha hl hc w := by
  unfold SdoIs
  have EF := hide (show rcFault x k t s = 1 from rcFault_is 0 (by omega) (by simp [rcB, unfE]; omega) (fun j hj => by omega))
  have EX := hide (show rcNext x k t s = x from rcNext_bad (by rw [unhide EF]; omega))
  obtain ⟨W2, hW2⟩ : ∃ W, W = w.alloc (.cells #[.int .i64 k, .int .i64 t, .string s] 31) := ⟨_, rfl⟩
  have b2 : Below w.heap.size w W2 := by rw [hW2]; exact bAl (Below.refl _ _) _
  have R2 := hide (show RowIs W2 w.heap.size #[.int .i64 k, .int .i64 t, .string s] 31 by rw [hW2]; exact RowIs.new _ _ _)
  have z2 := hide (show W2.heap.size = w.heap.size + 1 by rw [hW2]; simp)
  have h2 := hide (h.keep b2)
  have H0 := hide h
  have nb := h.box.lt
  have B2 := hide b2
  have HW := hide hW2.symm
  have e0 := (unhide R2).at (o := 0) (v := .int .i64 k) rfl
  have e1 := (unhide R2).at (o := 1) (v := .int .i64 t) rfl
  have e2 := (unhide R2).at (o := 2) (v := .string s) rfl
  have ez := (unhide R2).lt
  have c0 := (unhide h2).box.at (o := 0) (v := .int .i64 x.now) rfl
  have c1 := (unhide h2).box.at (o := 1) (v := .bool x.under) rfl
  have c2 := (unhide h2).box.at (o := 2) (v := .int .i64 x.ready) rfl
  have c3 := (unhide h2).box.at (o := 3) (v := v) rfl
  have cz := (unhide h2).box.lt
  clear hW2 b2 h
  go_enter Try.func18, Try.ntmps18
  go_upto_region 1 with fail
  rw [unhide HW]
  clear HW
  go_wp2_with fail
  go_ret
  rw [unhide EF, unhide EX]
  exact ⟨rfl, SpEnd.same (unhide H0) (unhide B2)⟩
set_option maxHeartbeats 4000000 in
theorem sdo_u4 {b : Nat} {x : RcT} {v : Value} (k t : Int) (s : ByteArray) (ha : Option Addr) (hl hc : Nat) (w : World) (h : SpAt w b x v) (g1 : ¬ k < 1) (g2 : ¬ 4 < k) (g3 : ¬ t < 0) (g4 : 100000000000 < t) : SdoIs x k t s b v ha hl hc w := by
  unfold SdoIs
  have EF := hide (show rcFault x k t s = 1 from rcFault_is 0 (by omega) (by simp [rcB, unfE]; omega) (fun j hj => by omega))
  have EX := hide (show rcNext x k t s = x from rcNext_bad (by rw [unhide EF]; omega))
  obtain ⟨W2, hW2⟩ : ∃ W, W = w.alloc (.cells #[.int .i64 k, .int .i64 t, .string s] 31) := ⟨_, rfl⟩
  have b2 : Below w.heap.size w W2 := by rw [hW2]; exact bAl (Below.refl _ _) _
  have R2 := hide (show RowIs W2 w.heap.size #[.int .i64 k, .int .i64 t, .string s] 31 by rw [hW2]; exact RowIs.new _ _ _)
  have z2 := hide (show W2.heap.size = w.heap.size + 1 by rw [hW2]; simp)
  have h2 := hide (h.keep b2)
  have H0 := hide h
  have nb := h.box.lt
  have B2 := hide b2
  have HW := hide hW2.symm
  have e0 := (unhide R2).at (o := 0) (v := .int .i64 k) rfl
  have e1 := (unhide R2).at (o := 1) (v := .int .i64 t) rfl
  have e2 := (unhide R2).at (o := 2) (v := .string s) rfl
  have ez := (unhide R2).lt
  have c0 := (unhide h2).box.at (o := 0) (v := .int .i64 x.now) rfl
  have c1 := (unhide h2).box.at (o := 1) (v := .bool x.under) rfl
  have c2 := (unhide h2).box.at (o := 2) (v := .int .i64 x.ready) rfl
  have c3 := (unhide h2).box.at (o := 3) (v := v) rfl
  have cz := (unhide h2).box.lt
  clear hW2 b2 h
  go_enter Try.func18, Try.ntmps18
  go_upto_region 1 with fail
  rw [unhide HW]
  clear HW
  go_wp2_with fail
  go_ret
  rw [unhide EF, unhide EX]
  exact ⟨rfl, SpEnd.same (unhide H0) (unhide B2)⟩
set_option maxHeartbeats 4000000 in
theorem sdo_u5 {b : Nat} {x : RcT} {v : Value} (k t : Int) (s : ByteArray) (ha : Option Addr) (hl hc : Nat) (w : World) (h : SpAt w b x v) (g1 : ¬ k < 1) (g2 : ¬ 4 < k) (g3 : ¬ t < 0) (g4 : ¬ 100000000000 < t) (g5 : (s.toList == []) = false) (g6 : ¬ k = 2) : SdoIs x k t s b v ha hl hc w := by
  unfold SdoIs
  have EF := hide (show rcFault x k t s = 1 from rcFault_is 0 (by omega) (by simp [rcB, unfE, g5, g6]) (fun j hj => by omega))
  have EX := hide (show rcNext x k t s = x from rcNext_bad (by rw [unhide EF]; omega))
  have n6 := nn_not k 2 g6
  have n7 : (k != 2) = true := by simpa using g6
  obtain ⟨W2, hW2⟩ : ∃ W, W = w.alloc (.cells #[.int .i64 k, .int .i64 t, .string s] 31) := ⟨_, rfl⟩
  have b2 : Below w.heap.size w W2 := by rw [hW2]; exact bAl (Below.refl _ _) _
  have R2 := hide (show RowIs W2 w.heap.size #[.int .i64 k, .int .i64 t, .string s] 31 by rw [hW2]; exact RowIs.new _ _ _)
  have z2 := hide (show W2.heap.size = w.heap.size + 1 by rw [hW2]; simp)
  have h2 := hide (h.keep b2)
  have H0 := hide h
  have nb := h.box.lt
  have B2 := hide b2
  have HW := hide hW2.symm
  have e0 := (unhide R2).at (o := 0) (v := .int .i64 k) rfl
  have e1 := (unhide R2).at (o := 1) (v := .int .i64 t) rfl
  have e2 := (unhide R2).at (o := 2) (v := .string s) rfl
  have ez := (unhide R2).lt
  have c0 := (unhide h2).box.at (o := 0) (v := .int .i64 x.now) rfl
  have c1 := (unhide h2).box.at (o := 1) (v := .bool x.under) rfl
  have c2 := (unhide h2).box.at (o := 2) (v := .int .i64 x.ready) rfl
  have c3 := (unhide h2).box.at (o := 3) (v := v) rfl
  have cz := (unhide h2).box.lt
  clear hW2 b2 h
  go_enter Try.func18, Try.ntmps18
  go_upto_region 1 with fail
  rw [unhide HW]
  clear HW
  go_wp2_with fail
  go_ret
  rw [unhide EF, unhide EX]
  exact ⟨rfl, SpEnd.same (unhide H0) (unhide B2)⟩
theorem own_box {w : World} {b e size n : Nat} {v : Value} {xs : List Value} (h : w.ownsRow (b + 1) e size v n xs) (o : Nat) (u : Value) : (w.setCell ⟨b, o, none⟩ u).ownsRow (b + 1) e size v n xs :=
  own_blk h (fun g hg => heap_setCell_other _ ⟨b, o, none⟩ g u (show g ≠ b by have := (h.lt g hg).1; omega))
theorem unf_ok {k t : Int} {s : ByteArray} (g1 : ¬ k < 1) (g2 : ¬ 4 < k) (g3 : ¬ t < 0) (g4 : ¬ 100000000000 < t) (g5 : (s.toList == []) = true ∨ k = 2) : unfE k t s = false := by
  unfold unfE
  rw [decide_eq_true (show 1 ≤ k ∧ k ≤ 4 by omega), decide_eq_true (show 0 ≤ t ∧ t ≤ 100000000000 by omega)]
  rcases g5 with g | g
  · rw [g]; rfl
  · subst g; simp
theorem jc1 {j : Nat} (h : j < 1) : j = 0 := by omega
theorem jc2 {j : Nat} (h : j < 2) : j = 0 ∨ j = 1 := by omega
theorem jc3 {j : Nat} (h : j < 3) : j = 0 ∨ j = 1 ∨ j = 2 := by omega
theorem jc4 {j : Nat} (h : j < 4) : j = 0 ∨ j = 1 ∨ j = 2 ∨ j = 3 := by omega
theorem jc5 {j : Nat} (h : j < 5) : j = 0 ∨ j = 1 ∨ j = 2 ∨ j = 3 ∨ j = 4 := by omega
theorem jc6 {j : Nat} (h : j < 6) : j = 0 ∨ j = 1 ∨ j = 2 ∨ j = 3 ∨ j = 4 ∨ j = 5 := by omega
theorem jc7 {j : Nat} (h : j < 7) : j = 0 ∨ j = 1 ∨ j = 2 ∨ j = 3 ∨ j = 4 ∨ j = 5 ∨ j = 6 := by omega
section
variable {x : RcT} {k t : Int} {s : ByteArray} (h0 : unfE k t s = false)
include h0
theorem rcF2 (gp : t < x.now) : rcFault x k t s = 2 := rcFault_is 1 (by omega) (by simp [rcB, gp]) (fun j hj => by
  rcases jc1 hj with rfl
  simp [rcB, h0])
theorem rcF3 (gp : ¬ t < x.now) (hu : (x.under == (k == 1)) = true) : rcFault x k t s = 3 := rcFault_is 2 (by omega) (by simpa [rcB] using hu) (fun j hj => by
  rcases jc2 hj with rfl | rfl
  · simp [rcB, h0]
  · simpa [rcB] using gp)
theorem rcF4 (gp : ¬ t < x.now) (hu : (x.under == (k == 1)) = false) (hk : k = 2) (hm : memB x.H s = false) : rcFault x k t s = 4 := rcFault_is 3 (by omega) (by simp [rcB, hk, hm]) (fun j hj => by
  rcases jc3 hj with rfl | rfl | rfl
  · simp [rcB, h0]
  · simpa [rcB] using gp
  · simpa [rcB] using hu)
theorem rcF5 (gp : ¬ t < x.now) (hu : (x.under == (k == 1)) = false) (hk : k = 2) (hm : memB x.H s = true) (hv : memB x.votes s = true) : rcFault x k t s = 5 := rcFault_is 4 (by omega) (by simp [rcB, hk, hv]) (fun j hj => by
  rcases jc4 hj with rfl | rfl | rfl | rfl
  · simp [rcB, h0]
  · simpa [rcB] using gp
  · simpa [rcB] using hu
  · simp [rcB, hm])
theorem rcF6 (gp : ¬ t < x.now) (hu : (x.under == (k == 1)) = false) (hk : k = 4) (hv : (x.votes.length : Int) < x.need) : rcFault x k t s = 6 := rcFault_is 5 (by omega) (by simp [rcB, hk, hv]) (fun j hj => by
  rcases jc5 hj with rfl | rfl | rfl | rfl | rfl
  · simp [rcB, h0]
  · simpa [rcB] using gp
  · simpa [rcB] using hu
  · simp [rcB, hk]
  · simp [rcB, hk])
theorem rcF7 (gp : ¬ t < x.now) (hu : (x.under == (k == 1)) = false) (hk : k = 4) (hv : ¬ (x.votes.length : Int) < x.need) (hr : t < x.ready) : rcFault x k t s = 7 := rcFault_is 6 (by omega) (by simp [rcB, hk, hr]) (fun j hj => by
  rcases jc6 hj with rfl | rfl | rfl | rfl | rfl | rfl
  · simp [rcB, h0]
  · simpa [rcB] using gp
  · simpa [rcB] using hu
  · simp [rcB, hk]
  · simp [rcB, hk]
  · simp [rcB]; intro _; omega)
theorem rcF0 (gp : ¬ t < x.now) (hu : (x.under == (k == 1)) = false) (h2 : k = 2 → memB x.H s = true ∧ memB x.votes s = false) (h4 : k = 4 → ¬ (x.votes.length : Int) < x.need ∧ ¬ t < x.ready) : rcFault x k t s = 0 := rcFault_none (fun j hj => by
  rcases jc7 hj with rfl | rfl | rfl | rfl | rfl | rfl | rfl
  · simp [rcB, h0]
  · simpa [rcB] using gp
  · simpa [rcB] using hu
  · by_cases hk : k = 2
    · simp [rcB, (h2 hk).1]
    · simp [rcB, hk]
  · by_cases hk : k = 2
    · simp [rcB, (h2 hk).2]
    · simp [rcB, hk]
  · by_cases hk : k = 4
    · simp [rcB, hk]; have := (h4 hk).1; omega
    · simp [rcB, hk]
  · by_cases hk : k = 4
    · simp [rcB, hk]; have := (h4 hk).2; omega
    · simp [rcB, hk])
end
set_option maxHeartbeats 4000000 in
theorem sdo_p_true {b : Nat} {x : RcT} {v : Value} (k t : Int) (s : ByteArray) (ha : Option Addr) (hl hc : Nat) (w : World) (h : SpAt w b x v) (g1 : ¬ k < 1) (g2 : ¬ 4 < k) (g3 : ¬ t < 0) (g4 : ¬ 100000000000 < t) (g5 : (s.toList == []) = true) (gp : t < x.now) : SdoIs x k t s b v ha hl hc w := by
  unfold SdoIs
  have EF := hide (show rcFault x k t s = 2 from rcF2 (unf_ok g1 g2 g3 g4 (.inl g5)) gp)
  have EX := hide (show rcNext x k t s = x from rcNext_bad (by rw [unhide EF]; omega))
  obtain ⟨W2, hW2⟩ : ∃ W, W = w.alloc (.cells #[.int .i64 k, .int .i64 t, .string s] 31) := ⟨_, rfl⟩
  have b2 : Below w.heap.size w W2 := by rw [hW2]; exact bAl (Below.refl _ _) _
  have R2 := hide (show RowIs W2 w.heap.size #[.int .i64 k, .int .i64 t, .string s] 31 by rw [hW2]; exact RowIs.new _ _ _)
  have z2 := hide (show W2.heap.size = w.heap.size + 1 by rw [hW2]; simp)
  have h2 := hide (h.keep b2)
  have H0 := hide h
  have nb := h.box.lt
  have B2 := hide b2
  have HW := hide hW2.symm
  have e0 := (unhide R2).at (o := 0) (v := .int .i64 k) rfl
  have e1 := (unhide R2).at (o := 1) (v := .int .i64 t) rfl
  have e2 := (unhide R2).at (o := 2) (v := .string s) rfl
  have ez := (unhide R2).lt
  have c0 := (unhide h2).box.at (o := 0) (v := .int .i64 x.now) rfl
  have c1 := (unhide h2).box.at (o := 1) (v := .bool x.under) rfl
  have c2 := (unhide h2).box.at (o := 2) (v := .int .i64 x.ready) rfl
  have c3 := (unhide h2).box.at (o := 3) (v := v) rfl
  have cz := (unhide h2).box.lt
  clear hW2 b2 h
  go_enter Try.func18, Try.ntmps18
  go_upto_region 1 with fail
  rw [unhide HW]
  clear HW
  go_wp2_with fail
  go_region
  go_wp2_with fail
  go_ret
  rw [unhide EF, unhide EX]
  exact ⟨rfl, SpEnd.same (unhide H0) (unhide B2).drew⟩
set_option maxHeartbeats 4000000 in
theorem sdo_p_false {b : Nat} {x : RcT} {v : Value} (k t : Int) (s : ByteArray) (ha : Option Addr) (hl hc : Nat) (w : World) (h : SpAt w b x v) (g3 : ¬ t < 0) (g4 : ¬ 100000000000 < t) (g5 : (s.toList == []) = false) (gp : t < x.now) : SdoIs x 2 t s b v ha hl hc w := by
  unfold SdoIs
  have EF := hide (show rcFault x 2 t s = 2 from rcF2 (unf_ok (by omega) (by omega) g3 g4 (.inr rfl)) gp)
  have EX := hide (show rcNext x 2 t s = x from rcNext_bad (by rw [unhide EF]; omega))
  obtain ⟨W2, hW2⟩ : ∃ W, W = w.alloc (.cells #[.int .i64 2, .int .i64 t, .string s] 31) := ⟨_, rfl⟩
  have b2 : Below w.heap.size w W2 := by rw [hW2]; exact bAl (Below.refl _ _) _
  have R2 := hide (show RowIs W2 w.heap.size #[.int .i64 2, .int .i64 t, .string s] 31 by rw [hW2]; exact RowIs.new _ _ _)
  have z2 := hide (show W2.heap.size = w.heap.size + 1 by rw [hW2]; simp)
  have h2 := hide (h.keep b2)
  have H0 := hide h
  have nb := h.box.lt
  have B2 := hide b2
  have HW := hide hW2.symm
  have e0 := (unhide R2).at (o := 0) (v := .int .i64 2) rfl
  have e1 := (unhide R2).at (o := 1) (v := .int .i64 t) rfl
  have e2 := (unhide R2).at (o := 2) (v := .string s) rfl
  have ez := (unhide R2).lt
  have c0 := (unhide h2).box.at (o := 0) (v := .int .i64 x.now) rfl
  have c1 := (unhide h2).box.at (o := 1) (v := .bool x.under) rfl
  have c2 := (unhide h2).box.at (o := 2) (v := .int .i64 x.ready) rfl
  have c3 := (unhide h2).box.at (o := 3) (v := v) rfl
  have cz := (unhide h2).box.lt
  clear hW2 b2 h
  go_enter Try.func18, Try.ntmps18
  go_upto_region 1 with fail
  rw [unhide HW]
  clear HW
  go_wp2_with fail
  go_region
  go_wp2_with fail
  go_ret
  rw [unhide EF, unhide EX]
  exact ⟨rfl, SpEnd.same (unhide H0) (unhide B2).drew⟩
set_option maxHeartbeats 4000000 in
theorem sdo_o1 {b : Nat} {x : RcT} {v : Value} (k t : Int) (s : ByteArray) (ha : Option Addr) (hl hc : Nat) (w : World) (h : SpAt w b x v) (g3 : ¬ t < 0) (g4 : ¬ 100000000000 < t) (g5 : (s.toList == []) = true) (gp : ¬ t < x.now) (hu : x.under = true) : SdoIs x 1 t s b v ha hl hc w := by
  unfold SdoIs
  have EF := hide (show rcFault x 1 t s = 3 from rcF3 (unf_ok (by omega) (by omega) g3 g4 (.inl g5)) gp (by rw [hu]; rfl))
  have EX := hide (show rcNext x 1 t s = x from rcNext_bad (by rw [unhide EF]; omega))
  obtain ⟨W2, hW2⟩ : ∃ W, W = w.alloc (.cells #[.int .i64 1, .int .i64 t, .string s] 31) := ⟨_, rfl⟩
  have b2 : Below w.heap.size w W2 := by rw [hW2]; exact bAl (Below.refl _ _) _
  have R2 := hide (show RowIs W2 w.heap.size #[.int .i64 1, .int .i64 t, .string s] 31 by rw [hW2]; exact RowIs.new _ _ _)
  have z2 := hide (show W2.heap.size = w.heap.size + 1 by rw [hW2]; simp)
  have h2 := hide (h.keep b2)
  have H0 := hide h
  have nb := h.box.lt
  have B2 := hide b2
  have HW := hide hW2.symm
  have e0 := (unhide R2).at (o := 0) (v := .int .i64 1) rfl
  have e1 := (unhide R2).at (o := 1) (v := .int .i64 t) rfl
  have e2 := (unhide R2).at (o := 2) (v := .string s) rfl
  have ez := (unhide R2).lt
  have c0 := (unhide h2).box.at (o := 0) (v := .int .i64 x.now) rfl
  have c1 := (unhide h2).box.at (o := 1) (v := .bool x.under) rfl
  have c2 := (unhide h2).box.at (o := 2) (v := .int .i64 x.ready) rfl
  have c3 := (unhide h2).box.at (o := 3) (v := v) rfl
  have cz := (unhide h2).box.lt
  clear hW2 b2 h
  go_enter Try.func18, Try.ntmps18
  go_upto_region 1 with fail
  rw [unhide HW]
  clear HW
  rw [hu] at c1
  go_wp2_with fail
  go_region
  go_wp2_with fail
  go_region
  go_wp2_with fail
  go_ret
  rw [unhide EF, unhide EX]
  exact ⟨rfl, SpEnd.same (unhide H0) (unhide B2).drew.drew⟩
set_option maxHeartbeats 4000000 in
theorem sdo_o2 {b : Nat} {x : RcT} {v : Value} (k t : Int) (s : ByteArray) (ha : Option Addr) (hl hc : Nat) (w : World) (h : SpAt w b x v) (g1 : ¬ k < 1) (g2 : ¬ 4 < k) (g3 : ¬ t < 0) (g4 : ¬ 100000000000 < t) (g5 : (s.toList == []) = true) (gp : ¬ t < x.now) (hu : x.under = false) (gk : ¬ k = 1) : SdoIs x k t s b v ha hl hc w := by
  unfold SdoIs
  have EF := hide (show rcFault x k t s = 3 from rcF3 (unf_ok g1 g2 g3 g4 (.inl g5)) gp (by rw [hu, nn_not k 1 gk]; rfl))
  have EX := hide (show rcNext x k t s = x from rcNext_bad (by rw [unhide EF]; omega))
  obtain ⟨W2, hW2⟩ : ∃ W, W = w.alloc (.cells #[.int .i64 k, .int .i64 t, .string s] 31) := ⟨_, rfl⟩
  have b2 : Below w.heap.size w W2 := by rw [hW2]; exact bAl (Below.refl _ _) _
  have R2 := hide (show RowIs W2 w.heap.size #[.int .i64 k, .int .i64 t, .string s] 31 by rw [hW2]; exact RowIs.new _ _ _)
  have z2 := hide (show W2.heap.size = w.heap.size + 1 by rw [hW2]; simp)
  have h2 := hide (h.keep b2)
  have H0 := hide h
  have nb := h.box.lt
  have B2 := hide b2
  have HW := hide hW2.symm
  have e0 := (unhide R2).at (o := 0) (v := .int .i64 k) rfl
  have e1 := (unhide R2).at (o := 1) (v := .int .i64 t) rfl
  have e2 := (unhide R2).at (o := 2) (v := .string s) rfl
  have ez := (unhide R2).lt
  have c0 := (unhide h2).box.at (o := 0) (v := .int .i64 x.now) rfl
  have c1 := (unhide h2).box.at (o := 1) (v := .bool x.under) rfl
  have c2 := (unhide h2).box.at (o := 2) (v := .int .i64 x.ready) rfl
  have c3 := (unhide h2).box.at (o := 3) (v := v) rfl
  have cz := (unhide h2).box.lt
  clear hW2 b2 h
  go_enter Try.func18, Try.ntmps18
  go_upto_region 1 with fail
  rw [unhide HW]
  clear HW
  rw [hu] at c1
  have n1 := nn_not k 1 gk
  go_wp2_with fail
  go_region
  go_wp2_with fail
  go_region
  go_wp2_with fail
  go_ret
  rw [unhide EF, unhide EX]
  exact ⟨rfl, SpEnd.same (unhide H0) (unhide B2).drew.drew⟩
set_option maxHeartbeats 4000000 in
theorem sdo_o3 {b : Nat} {x : RcT} {v : Value} (k t : Int) (s : ByteArray) (ha : Option Addr) (hl hc : Nat) (w : World) (h : SpAt w b x v) (g3 : ¬ t < 0) (g4 : ¬ 100000000000 < t) (g5 : (s.toList == []) = false) (gp : ¬ t < x.now) (hu : x.under = false) : SdoIs x 2 t s b v ha hl hc w := by
  unfold SdoIs
  have EF := hide (show rcFault x 2 t s = 3 from rcF3 (unf_ok (by omega) (by omega) g3 g4 (.inr rfl)) gp (by rw [hu]; rfl))
  have EX := hide (show rcNext x 2 t s = x from rcNext_bad (by rw [unhide EF]; omega))
  obtain ⟨W2, hW2⟩ : ∃ W, W = w.alloc (.cells #[.int .i64 2, .int .i64 t, .string s] 31) := ⟨_, rfl⟩
  have b2 : Below w.heap.size w W2 := by rw [hW2]; exact bAl (Below.refl _ _) _
  have R2 := hide (show RowIs W2 w.heap.size #[.int .i64 2, .int .i64 t, .string s] 31 by rw [hW2]; exact RowIs.new _ _ _)
  have z2 := hide (show W2.heap.size = w.heap.size + 1 by rw [hW2]; simp)
  have h2 := hide (h.keep b2)
  have H0 := hide h
  have nb := h.box.lt
  have B2 := hide b2
  have HW := hide hW2.symm
  have e0 := (unhide R2).at (o := 0) (v := .int .i64 2) rfl
  have e1 := (unhide R2).at (o := 1) (v := .int .i64 t) rfl
  have e2 := (unhide R2).at (o := 2) (v := .string s) rfl
  have ez := (unhide R2).lt
  have c0 := (unhide h2).box.at (o := 0) (v := .int .i64 x.now) rfl
  have c1 := (unhide h2).box.at (o := 1) (v := .bool x.under) rfl
  have c2 := (unhide h2).box.at (o := 2) (v := .int .i64 x.ready) rfl
  have c3 := (unhide h2).box.at (o := 3) (v := v) rfl
  have cz := (unhide h2).box.lt
  clear hW2 b2 h
  go_enter Try.func18, Try.ntmps18
  go_upto_region 1 with fail
  rw [unhide HW]
  clear HW
  rw [hu] at c1
  go_wp2_with fail
  go_region
  go_wp2_with fail
  go_region
  go_wp2_with fail
  go_ret
  rw [unhide EF, unhide EX]
  exact ⟨rfl, SpEnd.same (unhide H0) (unhide B2).drew.drew⟩
end Go.Proofs.Ytjmpakpodhbbpaa
