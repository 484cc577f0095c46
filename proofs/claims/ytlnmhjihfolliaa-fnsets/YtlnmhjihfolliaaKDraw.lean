/- KDraw, ported from seat 1a. -/
import Derived.Test.YtlnmhjihfolliaaKCur
namespace Go.Proofs.Ytlnmhjihfolliaa.V
open Go.RowKit

set_option maxHeartbeats 1000000 in
theorem of_any (b m z : Nat) (l : List ByteArray) (n : Nat) (w : World) (hm : m ≤ 800000) (hn : 1 ≤ n) (hn2 : n ≤ 100) (hln : n = l.length) (hc : CurOk w b m) (hr : StrRow w z 0 l) (hz : z ≠ b) :
    Calls Try.prog 28 #[.pointer (some ⟨b, 0, none⟩), .slice (some ⟨z, 0, none⟩) n n] w fun e w' => (∃ s, s ∈ l ∧ e = .returned (.string s)) ∧ CurOk w' b (m + 2) ∧ But b w w' := by
  have HC := hide hc
  have HR := hide hr
  have HL := hide hln
  clear hc hr hln
  go_enter Try.func28, Try.ntmps28
  go_wp2_with fail
  refine (pick_any b m (n : Int) _ (by omega) (by omega) (by omega) (unhide HC)).mono ?_
  rintro e w1 ⟨⟨r, r0, r1, rfl⟩, hc1, hb1⟩
  obtain ⟨j, rfl⟩ := Int.eq_ofNat_of_zero_le r0
  have hj : j < l.length := by have := unhide HL; omega
  have cj := hb1.cell (p := ⟨z, 0 + j, none⟩) (unhide HR).z hz ((unhide HR).c j hj)
  rw [Nat.zero_add] at cj
  have HC1 := hide hc1
  have mem := hide (List.getElem_mem hj)
  clear hc1
  generalize l[j] = s at cj mem
  go_wp2_with fail
  go_ret
  exact ⟨⟨s, unhide mem, rfl⟩, unhide HC1, hb1⟩

def six : List ByteArray := [⟨#[97]⟩, ⟨#[98]⟩, ⟨#[97, 98]⟩, ⟨#[42]⟩, ⟨#[92]⟩, ⟨#[97, 97]⟩]
def seven : List ByteArray := [⟨#[42]⟩, ⟨#[97]⟩, ⟨#[98]⟩, ⟨#[92, 42]⟩, ⟨#[92, 92]⟩, ⟨#[92]⟩, ⟨#[92, 97]⟩]

theorem int_eq' {k : IntKind} {a b : Int} (h : a = b) : Value.int k a = .int k b := by rw [h]
theorem six_size {s : ByteArray} (h : s ∈ six) : 1 ≤ s.size ∧ s.size ≤ 2 := by
  unfold six at h
  simp only [List.mem_cons, List.not_mem_nil, or_false] at h
  rcases h with rfl | rfl | rfl | rfl | rfl | rfl <;> decide
theorem seven_size {s : ByteArray} (h : s ∈ seven) : s.size ≤ 2 := by
  unfold seven at h
  simp only [List.mem_cons, List.not_mem_nil, or_false] at h
  rcases h with rfl | rfl | rfl | rfl | rfl | rfl | rfl <;> decide
theorem strs_row (w : World) (l : List ByteArray) : StrRow (w.alloc (.cells (l.map Value.string).toArray 9)) w.heap.size 0 l :=
  ⟨by simp, fun i hi => by
    have := World.cell?_alloc_mark w (l.map Value.string).toArray 9 (0, 0) (0 + i)
    rw [this]; simp [hi]⟩
theorem six_row (w : World) : StrRow (w.alloc (.cells #[.string ⟨#[97]⟩, .string ⟨#[98]⟩, .string ⟨#[97, 98]⟩, .string ⟨#[42]⟩, .string ⟨#[92]⟩, .string ⟨#[97, 97]⟩] 9)) w.heap.size 0 six := strs_row w six
theorem seven_row (w : World) : StrRow (w.alloc (.cells #[.string ⟨#[42]⟩, .string ⟨#[97]⟩, .string ⟨#[98]⟩, .string ⟨#[92, 42]⟩, .string ⟨#[92, 92]⟩, .string ⟨#[92]⟩, .string ⟨#[92, 97]⟩] 9)) w.heap.size 0 seven := strs_row w seven
theorem cur_new {w : World} {a : Option Addr} {len : Nat} (h : CodeAt w w.heap.size a len) (cap : Nat) : CurOk (w.alloc (.cells #[.slice a len cap, .int .i64 0, .int .u64 0] 37)) w.heap.size 0 :=
  ⟨a, len, cap, 0, 0, RowIs.new _ _ _, Nat.le_refl _, h.keep (But.of (bAl (Below.refl _ _) _))⟩

theorem cut_size {s : ByteArray} {k : Nat} (h : k < s.size) : (s.extract k (k + 1)).size = 1 := by
  rw [ByteArray.size_extract]; omega

end Go.Proofs.Ytlnmhjihfolliaa.V
