/- strings.Cut at one byte; spec.l7Until. -/
import Derived.Test.YtijfgfdagfchiaaGreatDoorQItoa
namespace Go.Proofs.YtijfgfdagfchiaaGreatDoor
open Go.RowKit
set_option maxRecDepth 20000

theorem bDw {B : Nat} {w w' : World} (h : Below B w w') (k : Nat) : Below B w (w'.drewN k) := ⟨h.os, h.tape, h.output, h.size, h.block⟩
theorem mk_list (s : ByteArray) : (⟨s.data.toList.toArray⟩ : ByteArray) = s := by
  apply ByteArray.ext; simp
theorem sz_list (s : ByteArray) : s.data.toList.length = s.size := by simp
theorem cut_take (s : ByteArray) (k : Nat) : s.extract 0 k = ⟨(s.data.toList.take k).toArray⟩ := by
  apply ByteArray.ext
  apply Array.toList_inj.1
  simp [ByteArray.data_extract]
theorem cut_drop (s : ByteArray) (k : Nat) : s.extract k s.size = ⟨(s.data.toList.drop k).toArray⟩ := by
  apply ByteArray.ext
  apply Array.toList_inj.1
  simp [ByteArray.data_extract, List.take_of_length_le]
theorem ix_lt : ∀ (l : List UInt8) (c : UInt8), Lib.indexByte l c < l.length
  | [], c => by simp [Lib.indexByte]
  | b :: l, c => by
    have ih := ix_lt l c
    unfold Lib.indexByte
    split
    · simp
    · split
      · simp; omega
      · simp; omega
theorem str_neq {a b : ByteArray} (h : ¬ a = b) : ¬ a.toList = b.toList := by
  intro e
  rw [ByteArray.toList_eq, ByteArray.toList_eq] at e
  exact h (Go.WideShapes.bytes_inj e)
/-- strings.Cut at one byte. -/
def cutC (c : UInt8) (s : List UInt8) : List UInt8 × List UInt8 := if 0 ≤ Lib.indexByte s c then (s.take (Lib.indexByte s c).toNat, s.drop ((Lib.indexByte s c).toNat + 1)) else (s, [])
theorem ix_app : ∀ (c : UInt8) (a r : List UInt8), c ∉ a → Lib.indexByte (a ++ c :: r) c = a.length
  | c, [], r, _ => by simp [Lib.indexByte]
  | c, b :: a, r, h => by
    have hc : ¬ b = c := fun e => h (by rw [e]; simp)
    have ih := ix_app c a r (fun e => h (List.mem_cons_of_mem _ e))
    show Lib.indexByte (b :: (a ++ c :: r)) c = _
    unfold Lib.indexByte
    rw [ih]
    have h1 : (b == c) = false := by simpa using hc
    rw [h1]
    have h2 : ((a.length : Int) == -1) = false := by rw [beq_eq_false_iff_ne]; omega
    rw [h2]
    simp
theorem ix_none : ∀ (c : UInt8) (a : List UInt8), c ∉ a → Lib.indexByte a c = -1
  | c, [], _ => rfl
  | c, b :: a, h => by
    have hc : ¬ b = c := fun e => h (by rw [e]; simp)
    have ih := ix_none c a (fun e => h (List.mem_cons_of_mem _ e))
    unfold Lib.indexByte
    rw [ih]
    have h1 : (b == c) = false := by simpa using hc
    rw [h1]; rfl
theorem cutC_app (c : UInt8) (a r : List UInt8) (h : c ∉ a) : cutC c (a ++ c :: r) = (a, r) := by
  unfold cutC
  rw [ix_app c a r h, if_pos (by omega)]
  simp
theorem cutC_none (c : UInt8) (a : List UInt8) (h : c ∉ a) : cutC c a = (a, []) := by
  unfold cutC
  rw [ix_none c a h, if_neg (by omega)]

set_option maxHeartbeats 400000 in
theorem liteCutC (c : UInt8) (s : ByteArray) (w : World) (hs : s.size ≤ 1048576) :
    Calls Tryz.prog 92 #[.string s, .string ⟨#[c]⟩] w fun e w' => (∃ b : Bool, e = .returned (.tuple #[.string ⟨(cutC c s.data.toList).1.toArray⟩, .string ⟨(cutC c s.data.toList).2.toArray⟩, .bool b])) ∧ Below w.heap.size w w' := by
  have hI := hide (fun w => Tryz.stringslite_Index_one s c w)
  have hlt := ix_lt s.data.toList c
  have hge := Lib.indexByte_ge s.data.toList c
  rw [sz_list] at hlt
  have e1 := cut_take s
  have e2 := cut_drop s
  unfold cutC
  generalize Lib.indexByte s.data.toList c = J at hI hlt hge
  by_cases hJ : 0 ≤ J
  · obtain ⟨j, rfl⟩ := Int.eq_ofNat_of_zero_le hJ
    rw [if_pos hJ]
    simp only [Int.toNat_natCast]
    rw [← e1, ← e2]
    clear e1 e2 hge
    go_enter Tryz.func92, Tryz.ntmps92
    go_wp2_with fail
    refine (unhide hI _).mono ?_
    rintro e w1 ⟨rfl, rfl⟩
    have i0 : (0 : Int) ≤ (j : Int) := by omega
    have i1 : (j : Int) ≤ (s.size : Int) := by omega
    have i2 : (j : Int) + 1 ≤ (s.size : Int) := by omega
    go_wp2_with fail
    go_quiet (fail)
    go_wp2_with fail
    refine bodyPost_ret (v := .tuple #[.string (s.extract 0 j), .string (s.extract (j + 1) s.size), .bool true]) (by simp [results, Tryz.results92, go_sem]) rfl ⟨⟨_, rfl⟩, below_drewN (Below.refl _ _) _⟩
  · rw [if_neg hJ]
    simp only
    rw [mk_list]
    clear e1 e2
    go_enter Tryz.func92, Tryz.ntmps92
    go_wp2_with fail
    refine (unhide hI _).mono ?_
    rintro e w1 ⟨rfl, rfl⟩
    go_wp2_with fail
    refine bodyPost_ret (v := .tuple #[.string s, .string ⟨#[]⟩, .bool false]) (by simp [results, Tryz.results92, go_sem]) rfl ⟨⟨_, rfl⟩, Below.refl _ _⟩
theorem strCutC (c : UInt8) (s : ByteArray) (w : World) (hs : s.size ≤ 1048576) :
    Calls Tryz.prog 67 #[.string s, .string ⟨#[c]⟩] w fun e w' => (∃ b : Bool, e = .returned (.tuple #[.string ⟨(cutC c s.data.toList).1.toArray⟩, .string ⟨(cutC c s.data.toList).2.toArray⟩, .bool b])) ∧ Below w.heap.size w w' := by
  have hI := hide (fun w => liteCutC c s w hs)
  generalize (⟨(cutC c s.data.toList).1.toArray⟩ : ByteArray) = X at hI ⊢
  generalize (⟨(cutC c s.data.toList).2.toArray⟩ : ByteArray) = Y at hI ⊢
  go_enter Tryz.func67, Tryz.ntmps67
  go_wp2_with fail
  refine (unhide hI _).mono ?_
  rintro e w1 ⟨⟨b, rfl⟩, hb⟩
  have BB := hide hb
  clear hb hI
  go_wp2_with fail
  refine bodyPost_ret (v := .tuple #[.string X, .string Y, .bool b]) (by simp [results, Tryz.results67, go_sem]) rfl ⟨⟨_, rfl⟩, unhide BB⟩

/-- Where the first of some bytes stands. -/
def untN (st l : List UInt8) : Nat := l.findIdx (fun c => st.contains c)
theorem untN_le (st l : List UInt8) : untN st l ≤ l.length := List.findIdx_le_length
theorem untN_at {st l : List UInt8} {k : Nat} (hk : k < l.length) (h0 : ∀ j (hj : j < k), st.contains (l[j]'(by omega)) = false) (h1 : st.contains l[k] = true) : untN st l = k := by
  unfold untN
  rw [List.findIdx_eq hk]
  exact ⟨h1, fun j hj => by simpa using h0 j hj⟩
theorem untN_no {st l : List UInt8} (h0 : ∀ j (hj : j < l.length), st.contains (l[j]'hj) = false) : untN st l = l.length := by
  unfold untN
  rw [List.findIdx_eq_length]
  intro x hx
  obtain ⟨j, hj, rfl⟩ := List.getElem_of_mem hx
  exact h0 j hj
theorem untN_app {st a r : List UInt8} {c : UInt8} (ha : ∀ x ∈ a, st.contains x = false) (hc : st.contains c = true) : untN st (a ++ c :: r) = a.length := by
  apply untN_at (by simp)
  · intro j hj
    rw [List.getElem_append_left hj]
    exact ha _ (List.getElem_mem _)
  · simpa using hc

end Go.Proofs.YtijfgfdagfchiaaGreatDoor
