/- GXs, GLaR, one behind the other. -/
import Derived.Test.YtakjnbdjjeccoaaJ27
import Derived.Test.YtakjnbdjjeccoaaJ28
import Derived.Test.YtakjnbdjjeccoaaJ24
/- laws.eqStringS; rows of texts as answers. -/
namespace Go.Proofs.Ytakjnbdjjeccoaa
open Go.RowKit

set_option maxHeartbeats 1000000 in
theorem eqStringS_same (a1 a2 : Option Addr) (len1 c1 len2 c2 : Nat) (l : List ByteArray) (w : World) (h1 : SlS w a1 len1 l) (h2 : SlS w a2 len2 l) (hm : len1 ≤ maxLen) :
    Calls Try.prog 33 #[.slice a1 len1 c1, .slice a2 len2 c2] w fun e w' => e = .returned (.bool true) ∧ Below w.heap.size w w' := by
  unfold maxLen at hm
  obtain rfl : len1 = len2 := by rw [h1.1, h2.1]
  have H1 := hide h1
  have H2 := hide h2
  have el := hide h1.1
  clear h1 h2
  have de : (((len1 : Int)) != (len1 : Int)) = false := by simp
  go_enter Try.func33, Try.ntmps33
  go_wp2_with fail
  go_loopw [5] (fun i w' => ∃ k : Nat, k ≤ len1 ∧ i = .int .i64 k ∧ Hid (Below w.heap.size w w')) (fun i _ => len1 - (Go.RowKit.intOf i).toNat)
  case atStart => exact ⟨0, Nat.zero_le _, rfl, hide (Below.refl _ _)⟩
  case round =>
    obtain ⟨k, hk, rfl, hb⟩ := hrel
    by_cases hlt : k < len1
    · have hk' : k < l.length := by rw [← unhide el]; exact hlt
      obtain ⟨b1, o1, rfl, r1⟩ := ((unhide H1).keep (unhide hb)).at hlt
      obtain ⟨b2, o2, rfl, r2⟩ := ((unhide H2).keep (unhide hb)).at hlt
      have p1 := r1.c k hk'
      have p2 := r2.c k hk'
      have z1 := r1.z
      have z2 := r2.z
      have i0 : (0 : Int) ≤ (k : Int) := by omega
      have i1 : (k : Int) < (len1 : Int) := by omega
      clear r1 r2
      generalize l[k] = A at p1 p2
      have ne : Nonempty (Kept wr) := ⟨⟨wr, Below.refl _ _⟩⟩
      have x1 := kept_cell z1 p1
      have x2 := kept_cell z2 p2
      have hee : (ByteArray.toList A != ByteArray.toList A) = false := by simp
      go_wp2_with fail
      refine wp_region_kept (by kernel_rfl) (by kernel_rfl) ?_
      repeat (first
        | go_big_quiet_step (fail)
        | quiet_step (fail))
      refine wpQuiet_nil ?_
      rintro _ ⟨q, rfl⟩
      go_wp2_with fail
      exact ⟨⟨k + 1, by omega, by go_num, hide (bTr (unhide hb) q.h)⟩, by simp [Go.RowKit.intOf]; omega⟩
    · go_wp2_with fail
      go_ret
      exact ⟨rfl, unhide hb⟩
theorem eqOwnStr {w : World} {b1 b2 : Nat} {v1 v2 : Value} {l : List ByteArray} (h1 : w.ownsRow b1 9 1 v1 l.length (l.map Value.string)) (h2 : w.ownsRow b2 9 1 v2 l.length (l.map Value.string)) (hl : l.length ≤ 1000000) :
    Calls Try.prog 33 #[v1, v2] w fun e w' => e = .returned (.bool true) ∧ Below w.heap.size w w' := by
  obtain ⟨a1, c1, rfl, s1⟩ := own_strs h1
  obtain ⟨a2, c2, rfl, s2⟩ := own_strs h2
  exact eqStringS_same a1 a2 _ c1 _ c2 l w s1 s2 (by unfold maxLen; omega)
end Go.Proofs.Ytakjnbdjjeccoaa
/- What the law of ReachOf imports. -/
namespace Go.Proofs.Ytakjnbdjjeccoaa
open Go.RowKit

theorem reach_max {l : List NestT} {r : List ReachT} (h : PRea l r) : r.length ≤ 40000 := h.len
end Go.Proofs.Ytakjnbdjjeccoaa
