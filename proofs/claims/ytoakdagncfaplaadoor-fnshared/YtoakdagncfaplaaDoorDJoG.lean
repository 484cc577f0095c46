/- impl.goodShares. -/
import Derived.Test.YtoakdagncfaplaaDoorDJoW
namespace Go.Proofs.YtoakdagncfaplaaDoor.D
set_option maxRecDepth 20000
open Go.RowKit

def shareB (x y : Int) : Bool := decide (1 ≤ x) && decide (x < 1073741789) && decide (0 ≤ y) && decide (y < 1073741789)

theorem goodShare_any (x y : Int) (w : World) : Calls Tryd.prog 26 #[.agg #[.int .i64 x, .int .i64 y]] w fun e w' => e = .returned (.bool (shareB x y)) ∧ Below w.heap.size w w' := by
  obtain ⟨T, hT⟩ : ∃ T, shareB x y = T := ⟨_, rfl⟩
  have HT := hide hT
  rw [hT]
  clear hT
  have B := hide (bAl (Below.refl w.heap.size w) (.cells #[.int .i64 x, .int .i64 y] 28))
  go_enter Tryd.func26, Tryd.ntmps26
  go_wp2_with fail
  all_goals go_ret
  all_goals (refine ⟨?_, unhide B⟩)
  all_goals (rw [← unhide HT]; unfold shareB; simp_all)
  all_goals (try omega)
set_option maxHeartbeats 400000 in
theorem alike_any (g : Nat) (x y u v : Int) (w : World) (hr : RowIs w g #[.int .i64 x, .int .i64 y] 28) : Calls Tryd.prog 25 #[.agg #[.int .i64 u, .int .i64 v], .pointer (some ⟨g, 0, none⟩)] w fun e w' => e = .returned (.bool (decide (u = x))) ∧ Below w.heap.size w w' := by
  have q0 := (hr.keep (bAl (Below.refl _ _) (.cells #[.int .i64 u, .int .i64 v] 28))).at (o := 0) (v := .int .i64 x) rfl
  have B := hide (bAl (Below.refl w.heap.size w) (.cells #[.int .i64 u, .int .i64 v] 28))
  clear hr
  go_enter Tryd.func25, Tryd.ntmps25
  go_wp2_with fail
  go_ret
  refine ⟨?_, unhide B⟩
  show Ending.returned (.bool (u == x)) = .returned (.bool (decide (u = x)))
  rw [show (u == x) = decide (u = x) by rw [Bool.eq_iff_iff]; simp]

theorem any_snoc (l : List (Int × Int)) (k : Nat) (x : Int) (h : k < l.length) : (l.take (k + 1)).any (fun s => decide (s.1 = x)) = ((l.take k).any (fun s => decide (s.1 = x)) || decide (l[k].1 = x)) := by
  rw [take_snoc l k h, List.any_append]; simp

set_option maxHeartbeats 400000 in
theorem indexFunc_any (g b off len cap : Nat) (l : List (Int × Int)) (x y : Int) (w : World) (hl : len = l.length) (hlen : len ≤ 20) (hr : RowIs w g #[.int .i64 x, .int .i64 y] 28) (hs : ShRow w b off l) :
    Calls Tryd.prog 34 #[.slice (some ⟨b, off, none⟩) len cap, .func (.func 25) #[] #[.pointer (some ⟨g, 0, none⟩)]] w fun e w' => (∃ r : Int, e = .returned (.int .i64 r) ∧ decide (0 ≤ r) = l.any (fun s => decide (s.1 = x))) ∧ Below w.heap.size w w' := by
  have HR := hide hr
  have HS := hide hs
  have HL := hide hl
  clear hr hs hl
  go_enter Tryd.func34, Tryd.ntmps34
  go_wp2_with fail
  go_loopw [8] (fun i w' => ∃ (k : Nat), k ≤ len ∧ i = .int .i64 k ∧ Hid ((l.take k).any (fun s => decide (s.1 = x)) = false) ∧ Hid (Below w.heap.size w w')) (fun i _ => len - (intOf i).toNat)
  case atStart => exact ⟨0, Nat.zero_le _, rfl, hide rfl, hide (Below.refl _ _)⟩
  case round =>
    obtain ⟨k, hk, rfl, ha, hb⟩ := hrel
    by_cases hlt : k < len
    · have hk' : k < l.length := by rw [← unhide HL]; exact hlt
      have r := (unhide HS).keep (unhide hb)
      have p0 := r.c0 k hk'
      have p1 := r.c1 k hk'
      have eT := hide (any_snoc l k x hk')
      have eM := hide (List.getElem_mem hk')
      clear r
      generalize l[k] = s at p0 p1 eT eM
      obtain ⟨X, Y⟩ := s
      simp only at p0 p1
      have i0 : (0 : Int) ≤ (k : Int) := by omega
      have i1 : (k : Int) < (len : Int) := by omega
      go_wp2_with fail
      refine (alike_any g x y X Y _ ((unhide HR).keep (unhide hb))).mono ?_
      rintro e w2 ⟨rfl, hb2⟩
      have B2 := hide (bTr (unhide hb) hb2)
      clear hb2
      by_cases hx : X = x
      · rw [decide_eq_true hx]
        go_wp2_with fail
        go_ret
        refine ⟨⟨_, rfl, ?_⟩, unhide B2⟩
        rw [decide_eq_true (by omega)]
        symm
        rw [List.any_eq_true]
        exact ⟨_, unhide eM, decide_eq_true hx⟩
      · have hd := hide (decide_eq_false hx)
        rw [decide_eq_false hx]
        go_wp2_with fail
        exact ⟨⟨k + 1, by omega, by go_num, hide (by rw [unhide eT, unhide ha, unhide hd]; rfl), B2⟩, by simp [intOf]; omega⟩
    · obtain rfl : k = len := by omega
      go_wp2_with fail
      go_ret
      refine ⟨⟨_, rfl, ?_⟩, unhide hb⟩
      have := unhide ha
      rw [unhide HL, List.take_length] at this
      rw [this]
      rfl

theorem containsFunc_any (g b off len cap : Nat) (l : List (Int × Int)) (x y : Int) (w : World) (hl : len = l.length) (hlen : len ≤ 20) (hr : RowIs w g #[.int .i64 x, .int .i64 y] 28) (hs : ShRow w b off l) :
    Calls Tryd.prog 27 #[.slice (some ⟨b, off, none⟩) len cap, .func (.func 25) #[] #[.pointer (some ⟨g, 0, none⟩)]] w fun e w' => e = .returned (.bool (l.any (fun s => decide (s.1 = x)))) ∧ Below w.heap.size w w' := by
  have HC := hide (indexFunc_any g b off len cap l x y w hl hlen hr hs)
  generalize l.any (fun s => decide (s.1 = x)) = t at HC
  clear hr hs hl
  go_enter Tryd.func27, Tryd.ntmps27
  go_wp2_with fail
  refine (unhide HC).mono ?_
  rintro e w1 ⟨⟨r, rfl, hr⟩, hb⟩
  clear HC
  have HR := hide hr
  clear hr
  go_wp2_with fail
  go_ret
  refine ⟨?_, hb⟩
  show Ending.returned (.bool (decide (0 ≤ r))) = .returned (.bool t)
  rw [unhide HR]
end Go.Proofs.YtoakdagncfaplaaDoor.D
