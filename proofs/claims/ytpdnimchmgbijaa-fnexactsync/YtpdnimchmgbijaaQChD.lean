/- impl.compareStamps, impl.GoodLog's order. -/
import Derived.Test.YtpdnimchmgbijaaQChC
namespace Go.Proofs.Ytpdnimchmgbijaa
open Go.RowKit

set_option maxHeartbeats 1000000 in
theorem compareStamps_any (t o t' o' : Int) (w : World) :
    Calls Try.prog 32 #[.agg #[.int .i64 t, .int .i64 o], .agg #[.int .i64 t', .int .i64 o']] w fun e w' => e = .returned (.int .i64 (cmpS t o t' o')) ∧ Below w.heap.size w w' := by
  unfold cmpS
  have h1 := hide (fun w => compareInt_any t t' w)
  have h2 := hide (fun w => compareInt_any o o' w)
  generalize cmpN t t' = v0 at h1 ⊢
  generalize cmpN o o' = v1 at h2 ⊢
  obtain ⟨W1, hW1⟩ : ∃ W, W = w.alloc (.cells #[.int .i64 t, .int .i64 o] 43) := ⟨_, rfl⟩
  obtain ⟨wc, hW2⟩ : ∃ W, W = W1.alloc (.cells #[.int .i64 t', .int .i64 o'] 43) := ⟨_, rfl⟩
  have z1 : W1.heap.size = w.heap.size + 1 := by rw [hW1]; simp
  have b1 : Below w.heap.size w W1 := by rw [hW1]; exact bAl (Below.refl _ _) _
  have b2 : Below W1.heap.size W1 wc := by rw [hW2]; exact bAl (Below.refl _ _) _
  have B := hide (bTr b1 b2)
  have r1 := (show RowIs W1 w.heap.size #[.int .i64 t, .int .i64 o] 43 by rw [hW1]; exact RowIs.new _ _ _).keep b2
  have r2 := show RowIs wc (w.heap.size + 1) #[.int .i64 t', .int .i64 o'] 43 by rw [hW2, ← z1]; exact RowIs.new _ _ _
  have HW := hide (show (w.alloc (.cells #[.int .i64 t, .int .i64 o] 43)).alloc (.cells #[.int .i64 t', .int .i64 o'] 43) = wc by rw [hW2, hW1])
  have c0 := r1.at (o := 0) (v := .int .i64 t) rfl
  have c1 := r1.at (o := 1) (v := .int .i64 o) rfl
  have d0 := r2.at (o := 0) (v := .int .i64 t') rfl
  have d1 := r2.at (o := 1) (v := .int .i64 o') rfl
  have zA := r1.lt
  have zB := r2.lt
  clear hW1 hW2 z1 b1 b2 r1 r2
  go_enter Try.func32, Try.ntmps32
  go_wp2_with fail
  rw [unhide HW]
  clear HW
  go_region_held3 (fun w' => w'.cell? ⟨w.heap.size, 0, none⟩ = some (.int .i64 t) ∧ w'.cell? ⟨w.heap.size, 1, none⟩ = some (.int .i64 o) ∧ w'.cell? ⟨w.heap.size + 1, 0, none⟩ = some (.int .i64 t') ∧ w'.cell? ⟨w.heap.size + 1, 1, none⟩ = some (.int .i64 o'))
      ((refine ⟨cellB (W := wc) ?_ zA c0, cellB (W := wc) ?_ zA c1, cellB (W := wc) ?_ zB d0, cellB (W := wc) ?_ zB d1⟩ <;> (repeat (first | exact Below.refl _ _ | refine Below.drew ?_ | refine bAl ?_ _))))
      (first
        | (go_at_call_of 45 t; refine (unhide h1 _).mono ?_; rintro e w' ⟨rfl, rfl⟩)
        | (go_at_call_of 45 o; refine (unhide h2 _).mono ?_; rintro e w' ⟨rfl, rfl⟩)
        | (go_at_call 44; refine (cmpOr_any wc.heap.size v0 v1 _ ?_ ?_).mono ?_; (go_simp); (go_simp); rintro e w' ⟨rfl, rfl⟩))
  go_wp2_with fail
  go_ret
  refine ⟨rfl, bTr (unhide B) ?_⟩
  (repeat (first | exact Below.refl _ _ | refine Below.drew ?_ | refine bAl ?_ _))

set_option maxHeartbeats 400000 in
theorem logOrder_any (A D : DcT) (w : World) :
    Calls Try.prog 31 #[.agg #[.int .i64 A.t, .int .i64 A.o, .int .i64 A.k, .int .i64 A.u, .int .i64 A.p, .string A.pa, .string A.pt, .string A.a, .string A.x], .agg #[.int .i64 D.t, .int .i64 D.o, .int .i64 D.k, .int .i64 D.u, .int .i64 D.p, .string D.pa, .string D.pt, .string D.a, .string D.x]] w
      fun e w' => e = .returned (.int .i64 (cmpS A.t A.o D.t D.o)) ∧ Below w.heap.size w w' := by
  have q1 := hide (fun w => compareStamps_any A.t A.o D.t D.o w)
  generalize cmpS A.t A.o D.t D.o = v at q1 ⊢
  obtain ⟨W1, hW1⟩ : ∃ W, W = w.alloc (.cells #[.int .i64 A.t, .int .i64 A.o, .int .i64 A.k, .int .i64 A.u, .int .i64 A.p, .string A.pa, .string A.pt, .string A.a, .string A.x] 46) := ⟨_, rfl⟩
  have B := hide (bAl (bAl (Below.refl w.heap.size w) (.cells #[.int .i64 A.t, .int .i64 A.o, .int .i64 A.k, .int .i64 A.u, .int .i64 A.p, .string A.pa, .string A.pt, .string A.a, .string A.x] 46)) (.cells #[.int .i64 D.t, .int .i64 D.o, .int .i64 D.k, .int .i64 D.u, .int .i64 D.p, .string D.pa, .string D.pt, .string D.a, .string D.x] 46))
  clear hW1 W1
  go_enter Try.func31, Try.ntmps31
  go_wp2_with fail
  refine (unhide q1 _).mono ?_
  rintro e w1 ⟨rfl, hb⟩
  go_wp2_with fail
  go_ret
  exact ⟨rfl, bTr (unhide B) hb⟩
end Go.Proofs.Ytpdnimchmgbijaa
