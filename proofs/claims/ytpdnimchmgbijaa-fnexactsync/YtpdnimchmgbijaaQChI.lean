/- impl.GoodChange. -/
import Derived.Test.YtpdnimchmgbijaaQChB
import Derived.Deep.RegionWith
namespace Go.Proofs.Ytpdnimchmgbijaa
open Go.RowKit

set_option maxHeartbeats 1000000 in
theorem iGoodChange_1 (t o u p : Int) (pa pt a x : ByteArray) (w : World) (i1 : pa.size ≤ maxLen) (i2 : pt.size ≤ maxLen) (st : stB t o = true) (h5 : ¬ u < 1) (h6 : ¬ 1000 < u) :
    Calls Try.prog 43 #[.agg #[.int .i64 t, .int .i64 o, .int .i64 1, .int .i64 u, .int .i64 p, .string pa, .string pt, .string a, .string x]] w
      fun e w' => e = .returned (.bool (a.toList.isEmpty && (x.toList.isEmpty && plB p pa pt))) ∧ Below w.heap.size w w' := by
  have q1 := hide (fun w => goodStamp_any t o w)
  have q2 := hide (fun w => goodPlace_any p pa pt w i1 i2)
  rw [st] at q1
  generalize plB p pa pt = P at q2 ⊢
  clear i1 i2 st
  have R := hide (RowIs.new w #[.int .i64 t, .int .i64 o, .int .i64 1, .int .i64 u, .int .i64 p, .string pa, .string pt, .string a, .string x] 46)
  have B := hide (bAl (Below.refl w.heap.size w) (.cells #[.int .i64 t, .int .i64 o, .int .i64 1, .int .i64 u, .int .i64 p, .string pa, .string pt, .string a, .string x] 46))
  go_enter Try.func43, Try.ntmps43
  go_wp2_with fail
  refine (unhide q1 _).mono ?_
  rintro e w1 ⟨rfl, hb⟩
  have r := (unhide R).keep hb
  have B1 := hide (bTr (unhide B) hb)
  clear hb R B q1
  have c0 := r.at (o := 0) (v := .int .i64 t) rfl
  have c1 := r.at (o := 1) (v := .int .i64 o) rfl
  have c2 := r.at (o := 2) (v := .int .i64 1) rfl
  have c3 := r.at (o := 3) (v := .int .i64 u) rfl
  have c4 := r.at (o := 4) (v := .int .i64 p) rfl
  have c5 := r.at (o := 5) (v := .string pa) rfl
  have c6 := r.at (o := 6) (v := .string pt) rfl
  have c7 := r.at (o := 7) (v := .string a) rfl
  have c8 := r.at (o := 8) (v := .string x) rfl
  have z := r.lt
  clear r
  have B2 := hide (((unhide B1).alloc (unhide B1).size (.cells #[.int .i64 t, .int .i64 o, .int .i64 1, .int .i64 u, .int .i64 p, .string pa, .string pt, .string ⟨#[]⟩, .string ⟨#[]⟩] 46)).drew)
  clear B1
  go_wp2_with fail
  go_region
  all_goals
    go_wp2_with (go_at_call 52; refine (unhide q2 _).mono ?_; rintro e w2 ⟨rfl, hb2⟩)
    all_goals go_ret
    all_goals refine ⟨ret_bool ?_, ?_⟩
    all_goals first
      | exact bTr (unhide B2) hb2
      | exact unhide B2
      | simp [*]
end Go.Proofs.Ytpdnimchmgbijaa
