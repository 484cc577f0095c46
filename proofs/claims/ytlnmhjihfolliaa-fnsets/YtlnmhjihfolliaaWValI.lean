/- WValI, ported from seat 1a. -/
import Derived.Test.YtlnmhjihfolliaaWValR
import Derived.Test.YtlnmhjihfolliaaWCmpA
import Derived.Lib.Bytealg
import Derived.Laws.Externs
namespace Go.Proofs.Ytlnmhjihfolliaa.V
open Go.RowKit

theorem AtomT.iGood (a : AtomT) (h : a.Ok) (w : World) : Calls Try.prog 31 #[.agg #[.int .i64 a.x, .int .i64 a.n, .string a.t, .string a.y]] w fun e w' => e = .returned (.bool a.good) ∧ Below w.heap.size w w' :=
  iGoodAtom_any a.x a.n a.t a.y w h.n9 h.t9 h.y9
theorem AtomT.iCmp (a b : AtomT) (h : a.Ok) (h' : b.Ok) (g : a.good = true) (g' : b.good = true) (w : World) :
    Calls Try.prog 16 #[.agg #[.int .i64 a.x, .int .i64 a.n, .string a.t, .string a.y], .agg #[.int .i64 b.x, .int .i64 b.n, .string b.t, .string b.y]] w fun e w' => e = .returned (.int .i64 (a.cmp b)) ∧ Below w.heap.size w w' := by
  have := iCompare_any a.x a.n a.t a.y b.x b.n b.t b.y w h.n9 h.t9 h.y9 h'.n9 h'.t9 h'.y9
  unfold cmpG at this
  rw [if_pos ⟨g, g'⟩] at this
  exact this

set_option maxHeartbeats 400000 in
theorem allGood_any (a : Option Addr) (len cap : Nat) (l : List AtomT) (w : World) (hl : len ≤ maxLen) (hs : SlA w a len l) (hi : ∀ q ∈ l, AtomT.Ok q) :
    Calls Try.prog 13 #[.slice a len cap] w fun e w' => RetB e (AllA l l.length) ∧ Below w.heap.size w w' := by
  unfold maxLen at hl
  have HS := hide hs
  clear hs
  go_enter Try.func13, Try.ntmps13
  go_wp2
  go_loopw [7] (fun i w' => ∃ k : Nat, k ≤ len ∧ i = .int .i64 k ∧ Hid (Below w.heap.size w w') ∧ Hid (AllA l k)) (fun i _ => len - (intOf i).toNat)
  case atStart => exact ⟨0, Nat.zero_le _, rfl, hide (Below.refl _ _), hide (fun i _ h => absurd h (Nat.not_lt_zero _))⟩
  case round =>
    obtain ⟨k, hk, rfl, hb, hall⟩ := hrel
    by_cases hlt : k < len
    · have hk' : k < l.length := by rw [← (unhide HS).1]; exact hlt
      obtain ⟨b, off, rfl, hrow⟩ := ((unhide HS).keep (unhide hb)).at hlt
      obtain ⟨c0, c1, c2, c3⟩ := hrow.c k hk'
      have hok := hi _ (List.getElem_mem hk')
      have qk := hide (fun w => AtomT.iGood l[k] hok w)
      have stepA := hide (fun g => (unhide hall).step hk' g)
      have noA : Hid (l[k].good = false → ¬ AllA l l.length) := hide (fun g h => by have := h k hk' hk'; rw [g] at this; cases this)
      clear hrow hok
      generalize l[k] = P at *
      cases g : P.good
      · rw [g] at qk
        replace noA := hide (unhide noA g)
        clear g
        go_wp2_with (go_at_call 31; refine (unhide qk _).mono ?_; rintro e w5 ⟨rfl, hb5⟩)
        go_ret
        exact ⟨retB (b := false) ⟨fun h => (by cases h), fun h => absurd h (unhide noA)⟩, bTr (bAl (unhide hb) _) hb5⟩
      · rw [g] at qk
        replace stepA := hide (unhide stepA g)
        clear g
        go_wp2_with (go_at_call 31; refine (unhide qk _).mono ?_; rintro e w5 ⟨rfl, hb5⟩)
        exact ⟨⟨k + 1, by omega, by go_num, hide (bTr (bAl (unhide hb) _) hb5), stepA⟩, by simp [intOf]; omega⟩
    · have e : k = l.length := by rw [← (unhide HS).1]; omega
      have hA : Hid (AllA l l.length) := hide (by rw [← e]; exact unhide hall)
      clear e
      go_wp2_with fail
      go_ret
      exact ⟨retB (b := true) ⟨fun _ => unhide hA, fun _ => rfl⟩, unhide hb⟩

theorem compareBytes_eq : ∀ a b : List UInt8, Lib.compareBytes a b = cmpT a b
  | [], [] => rfl
  | [], _ :: _ => rfl
  | _ :: _, [] => rfl
  | a :: x, b :: y => by
    unfold Lib.compareBytes cmpT
    by_cases e : a = b
    · subst e
      rw [if_neg (by simp), if_neg (by simp), if_pos rfl]
      exact compareBytes_eq x y
    · rw [if_neg e]
      unfold cmpN
      by_cases l : a < b
      · have l' : (a.toNat : Int) < (b.toNat : Int) := by have := UInt8.lt_iff_toNat_lt.1 l; omega
        rw [if_pos l, if_pos l']
      · have l' : ¬ (a.toNat : Int) < (b.toNat : Int) := fun h => l (UInt8.lt_iff_toNat_lt.2 (by omega))
        have l2 : (b.toNat : Int) < (a.toNat : Int) := by
          have : ¬ (a.toNat : Int) = (b.toNat : Int) := fun h => e (u8_eq h)
          omega
        rw [if_neg l, if_pos (UInt8.lt_iff_toNat_lt.2 (by omega)), if_neg l', if_pos l2]

end Go.Proofs.Ytlnmhjihfolliaa.V
