/- impl.timeVector's see and newest. -/
import Derived.Test.YtpdnimchmgbijaaQMap
namespace Go.Proofs.Ytpdnimchmgbijaa
open Go.RowKit Go.Maps

theorem okI_iff (a : Int) : okI a ↔ (-9223372036854775808 ≤ a ∧ a ≤ 9223372036854775807) := by
  unfold okI
  simp [Lit.wf, IntKind.min, IntKind.max, IntKind.signed, IntKind.bits]

theorem max_if (a b : Int) : (if a < b then b else a) = max a b := by rw [Int.max_def]; split <;> split <;> omega
theorem okI_if {a b : Int} (ha : okI a) (hb : okI b) : okI (if a < b then b else a) := by split <;> assumption

set_option maxRecDepth 100000 in
set_option maxHeartbeats 400000 in
theorem see_any (b n : Nat) (tv : Int → Int) (t s : Int) (w : World) (hv : VecM w b n tv) (hn : n < maxLen) (ht : okI t) (hs : okI s) (ht0 : 0 < t) :
    Calls Try.prog 34 #[.map (some b), .agg #[.int .i64 t, .int .i64 s]] w fun e w' => e = .returned (.tuple #[]) ∧ VecM w' b (n + 1) (upd tv s t) ∧ w.grownBy w' (some b) := by
  have HV := hide (hv.kept (World.grownBy_alloc w (.cells #[.int .i64 t, .int .i64 s] 43) none) (by simp))
  clear hv
  go_enter Try.func34, Try.ntmps34
  go_wp2_with (first
    | (at_lookup; refine wpList_look_vec _ rfl _ _ rfl b n tv rfl (unhide HV) s rfl hs ?_; intro hwc)
    | (at_mapUpdate; refine wpList_put_vec _ rfl _ _ _ rfl b n tv rfl (unhide HV) hn s t _ rfl rfl (max_if _ _) hs (okI_if hwc ht) ht0 ?_; intro w1 h1 hg1))
  all_goals go_end0
  all_goals exact ⟨rfl, h1, (World.grownBy_alloc w _ (some b)).trans hg1⟩

end Go.Proofs.Ytpdnimchmgbijaa
