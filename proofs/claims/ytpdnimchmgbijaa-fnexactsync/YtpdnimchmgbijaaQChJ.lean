/- impl.GoodChange: the other kinds. -/
import Derived.Test.YtpdnimchmgbijaaQChI
namespace Go.Proofs.Ytpdnimchmgbijaa
open Go.RowKit

set_option maxHeartbeats 2000000 in
theorem iGoodChange_2 (t o u p : Int) (pa pt a x : ByteArray) (w : World) (i3 : a.size ≤ maxLen) (i4 : x.size ≤ maxLen) (st : stB t o = true) (h5 : ¬ u < 1) (h6 : ¬ 1000 < u) :
    Calls Try.prog 43 #[.agg #[.int .i64 t, .int .i64 o, .int .i64 2, .int .i64 u, .int .i64 p, .string pa, .string pt, .string a, .string x]] w
      fun e w' => e = .returned (.bool ((p == 0) && (pa.toList.isEmpty && (pt.toList.isEmpty && (goodName a && (decide (1 ≤ x.size) && (decide (x.size ≤ 200) && textL x))))))) ∧ Below w.heap.size w w' := by
  have q1 := hide (fun w => goodStamp_any t o w)
  have q2 := hide (fun w => iGoodName_any a i3 w)
  have q3 := hide (fun w => oneOrMore_any x i4 w)
  rw [st] at q1
  generalize goodName a = N at q2 ⊢
  generalize (decide (1 ≤ x.size) && (decide (x.size ≤ 200) && textL x)) = X at q3 ⊢
  clear i3 i4 st
  have R := hide (RowIs.new w #[.int .i64 t, .int .i64 o, .int .i64 2, .int .i64 u, .int .i64 p, .string pa, .string pt, .string a, .string x] 46)
  have B := hide (bAl (Below.refl w.heap.size w) (.cells #[.int .i64 t, .int .i64 o, .int .i64 2, .int .i64 u, .int .i64 p, .string pa, .string pt, .string a, .string x] 46))
  go_enter Try.func43, Try.ntmps43
  go_wp2_with fail
  refine (unhide q1 _).mono ?_
  rintro e w1 ⟨rfl, hb⟩
  have r := (unhide R).keep hb
  have B1 := hide (bTr (unhide B) hb)
  clear hb R B q1
  have c0 := r.at (o := 0) (v := .int .i64 t) rfl
  have c1 := r.at (o := 1) (v := .int .i64 o) rfl
  have c2 := r.at (o := 2) (v := .int .i64 2) rfl
  have c3 := r.at (o := 3) (v := .int .i64 u) rfl
  have c4 := r.at (o := 4) (v := .int .i64 p) rfl
  have c5 := r.at (o := 5) (v := .string pa) rfl
  have c6 := r.at (o := 6) (v := .string pt) rfl
  have c7 := r.at (o := 7) (v := .string a) rfl
  have c8 := r.at (o := 8) (v := .string x) rfl
  have z := r.lt
  have RR0 := hide r
  clear r
  have B2 := hide (((unhide B1).alloc (unhide B1).size (.cells #[.int .i64 t, .int .i64 o, .int .i64 2, .int .i64 u, .int .i64 0, .string ⟨#[]⟩, .string ⟨#[]⟩, .string a, .string x] 46)).drew)
  have RR := hide (show RowIs ((w1.alloc (.cells #[.int .i64 t, .int .i64 o, .int .i64 2, .int .i64 u, .int .i64 0, .string ⟨#[]⟩, .string ⟨#[]⟩, .string a, .string x] 46)).drew) w.heap.size #[.int .i64 t, .int .i64 o, .int .i64 2, .int .i64 u, .int .i64 p, .string pa, .string pt, .string a, .string x] 46 from (unhide RR0).keep ((bAl (Below.refl _ _) _).drew))
  clear B1 RR0
  go_wp2_with fail
  go_region
  all_goals
    go_wp2_with fail
    all_goals first
      | (go_ret; exact ⟨ret_bool (by simp [*]), unhide B2⟩)
      | (refine (unhide q2 _).mono ?_
         rintro e w2 ⟨rfl, hb2⟩
         have d8 := ((unhide RR).keep hb2).at (o := 8) (v := .string x) rfl
         have B3 := hide (bTr (unhide B2) hb2)
         clear hb2 B2 RR q2
         cases N
         · go_wp2_with fail
           go_ret
           exact ⟨ret_bool (by simp), unhide B3⟩
         · go_wp2_with fail
           refine (unhide q3 _).mono ?_
           rintro e w3 ⟨rfl, hb3⟩
           have B4 := hide (bTr (unhide B3) hb3)
           clear hb3
           go_wp2_with fail
           go_ret
           exact ⟨ret_bool (by simp [*]), unhide B4⟩)

set_option maxHeartbeats 2000000 in
theorem iGoodChange_3 (t o u p : Int) (pa pt a x : ByteArray) (w : World) (i3 : a.size ≤ maxLen) (i4 : x.size ≤ maxLen) (st : stB t o = true) (h5 : ¬ u < 1) (h6 : ¬ 1000 < u) :
    Calls Try.prog 43 #[.agg #[.int .i64 t, .int .i64 o, .int .i64 3, .int .i64 u, .int .i64 p, .string pa, .string pt, .string a, .string x]] w
      fun e w' => e = .returned (.bool ((p == 0) && (pa.toList.isEmpty && (pt.toList.isEmpty && (goodName a && (decide (1 ≤ x.size) && (decide (x.size ≤ 200) && textL x))))))) ∧ Below w.heap.size w w' := by
  have q1 := hide (fun w => goodStamp_any t o w)
  have q2 := hide (fun w => iGoodName_any a i3 w)
  have q3 := hide (fun w => oneOrMore_any x i4 w)
  rw [st] at q1
  generalize goodName a = N at q2 ⊢
  generalize (decide (1 ≤ x.size) && (decide (x.size ≤ 200) && textL x)) = X at q3 ⊢
  clear i3 i4 st
  have R := hide (RowIs.new w #[.int .i64 t, .int .i64 o, .int .i64 3, .int .i64 u, .int .i64 p, .string pa, .string pt, .string a, .string x] 46)
  have B := hide (bAl (Below.refl w.heap.size w) (.cells #[.int .i64 t, .int .i64 o, .int .i64 3, .int .i64 u, .int .i64 p, .string pa, .string pt, .string a, .string x] 46))
  go_enter Try.func43, Try.ntmps43
  go_wp2_with fail
  refine (unhide q1 _).mono ?_
  rintro e w1 ⟨rfl, hb⟩
  have r := (unhide R).keep hb
  have B1 := hide (bTr (unhide B) hb)
  clear hb R B q1
  have c0 := r.at (o := 0) (v := .int .i64 t) rfl
  have c1 := r.at (o := 1) (v := .int .i64 o) rfl
  have c2 := r.at (o := 2) (v := .int .i64 3) rfl
  have c3 := r.at (o := 3) (v := .int .i64 u) rfl
  have c4 := r.at (o := 4) (v := .int .i64 p) rfl
  have c5 := r.at (o := 5) (v := .string pa) rfl
  have c6 := r.at (o := 6) (v := .string pt) rfl
  have c7 := r.at (o := 7) (v := .string a) rfl
  have c8 := r.at (o := 8) (v := .string x) rfl
  have z := r.lt
  have RR0 := hide r
  clear r
  have B2 := hide (((unhide B1).alloc (unhide B1).size (.cells #[.int .i64 t, .int .i64 o, .int .i64 3, .int .i64 u, .int .i64 0, .string ⟨#[]⟩, .string ⟨#[]⟩, .string a, .string x] 46)).drew)
  have RR := hide (show RowIs ((w1.alloc (.cells #[.int .i64 t, .int .i64 o, .int .i64 3, .int .i64 u, .int .i64 0, .string ⟨#[]⟩, .string ⟨#[]⟩, .string a, .string x] 46)).drew) w.heap.size #[.int .i64 t, .int .i64 o, .int .i64 3, .int .i64 u, .int .i64 p, .string pa, .string pt, .string a, .string x] 46 from (unhide RR0).keep ((bAl (Below.refl _ _) _).drew))
  clear B1 RR0
  go_wp2_with fail
  go_region
  all_goals
    go_wp2_with fail
    all_goals first
      | (go_ret; exact ⟨ret_bool (by simp [*]), unhide B2⟩)
      | (refine (unhide q2 _).mono ?_
         rintro e w2 ⟨rfl, hb2⟩
         have d8 := ((unhide RR).keep hb2).at (o := 8) (v := .string x) rfl
         have B3 := hide (bTr (unhide B2) hb2)
         clear hb2 B2 RR q2
         cases N
         · go_wp2_with fail
           go_ret
           exact ⟨ret_bool (by simp), unhide B3⟩
         · go_wp2_with fail
           refine (unhide q3 _).mono ?_
           rintro e w3 ⟨rfl, hb3⟩
           have B4 := hide (bTr (unhide B3) hb3)
           clear hb3
           go_wp2_with fail
           go_ret
           exact ⟨ret_bool (by simp [*]), unhide B4⟩)

set_option maxHeartbeats 2000000 in
theorem iGoodChange_4 (t o u p : Int) (pa pt a x : ByteArray) (w : World) (st : stB t o = true) (h5 : ¬ u < 1) (h6 : ¬ 1000 < u) :
    Calls Try.prog 43 #[.agg #[.int .i64 t, .int .i64 o, .int .i64 4, .int .i64 u, .int .i64 p, .string pa, .string pt, .string a, .string x]] w
      fun e w' => e = .returned (.bool ((p == 0) && (pa.toList.isEmpty && (pt.toList.isEmpty && (a.toList.isEmpty && x.toList.isEmpty))))) ∧ Below w.heap.size w w' := by
  have q1 := hide (fun w => goodStamp_any t o w)
  rw [st] at q1
  clear st
  have R := hide (RowIs.new w #[.int .i64 t, .int .i64 o, .int .i64 4, .int .i64 u, .int .i64 p, .string pa, .string pt, .string a, .string x] 46)
  have B := hide (bAl (Below.refl w.heap.size w) (.cells #[.int .i64 t, .int .i64 o, .int .i64 4, .int .i64 u, .int .i64 p, .string pa, .string pt, .string a, .string x] 46))
  go_enter Try.func43, Try.ntmps43
  go_wp2_with fail
  refine (unhide q1 _).mono ?_
  rintro e w1 ⟨rfl, hb⟩
  have r := (unhide R).keep hb
  have B1 := hide (bTr (unhide B) hb)
  clear hb R B q1
  have c0 := r.at (o := 0) (v := .int .i64 t) rfl
  have c1 := r.at (o := 1) (v := .int .i64 o) rfl
  have c2 := r.at (o := 2) (v := .int .i64 4) rfl
  have c3 := r.at (o := 3) (v := .int .i64 u) rfl
  have c4 := r.at (o := 4) (v := .int .i64 p) rfl
  have c5 := r.at (o := 5) (v := .string pa) rfl
  have c6 := r.at (o := 6) (v := .string pt) rfl
  have c7 := r.at (o := 7) (v := .string a) rfl
  have c8 := r.at (o := 8) (v := .string x) rfl
  have z := r.lt
  clear r
  have B2 := hide ((unhide B1).alloc (unhide B1).size (.cells #[.int .i64 t, .int .i64 o, .int .i64 4, .int .i64 u, .int .i64 0, .string ⟨#[]⟩, .string ⟨#[]⟩, .string ⟨#[]⟩, .string ⟨#[]⟩] 46))
  clear B1
  go_wp2_with fail
  all_goals go_ret
  all_goals exact ⟨ret_bool (by simp [*]), unhide B2⟩

set_option maxHeartbeats 2000000 in
theorem iGoodChange_else (t o k u p : Int) (pa pt a x : ByteArray) (w : World) (k1 : ¬ k = 1) (k2 : ¬ k = 2) (k3 : ¬ k = 3) (k4 : ¬ k = 4) (st : stB t o = true) (h5 : ¬ u < 1) (h6 : ¬ 1000 < u) :
    Calls Try.prog 43 #[.agg #[.int .i64 t, .int .i64 o, .int .i64 k, .int .i64 u, .int .i64 p, .string pa, .string pt, .string a, .string x]] w fun e w' => e = .returned (.bool false) ∧ Below w.heap.size w w' := by
  have t1 : (k == 1) = false := by simpa using k1
  have t2 : (k == 2) = false := by simpa using k2
  have t3 : (k == 3) = false := by simpa using k3
  have t4 : (k == 4) = false := by simpa using k4
  clear k1 k2 k3 k4
  have q1 := hide (fun w => goodStamp_any t o w)
  rw [st] at q1
  clear st
  have R := hide (RowIs.new w #[.int .i64 t, .int .i64 o, .int .i64 k, .int .i64 u, .int .i64 p, .string pa, .string pt, .string a, .string x] 46)
  have B := hide (bAl (Below.refl w.heap.size w) (.cells #[.int .i64 t, .int .i64 o, .int .i64 k, .int .i64 u, .int .i64 p, .string pa, .string pt, .string a, .string x] 46))
  go_enter Try.func43, Try.ntmps43
  go_wp2_with fail
  refine (unhide q1 _).mono ?_
  rintro e w1 ⟨rfl, hb⟩
  have r := (unhide R).keep hb
  have B1 := hide (bTr (unhide B) hb)
  clear hb R B q1
  have c0 := r.at (o := 0) (v := .int .i64 t) rfl
  have c1 := r.at (o := 1) (v := .int .i64 o) rfl
  have c2 := r.at (o := 2) (v := .int .i64 k) rfl
  have c3 := r.at (o := 3) (v := .int .i64 u) rfl
  have c4 := r.at (o := 4) (v := .int .i64 p) rfl
  have c5 := r.at (o := 5) (v := .string pa) rfl
  have c6 := r.at (o := 6) (v := .string pt) rfl
  have c7 := r.at (o := 7) (v := .string a) rfl
  have c8 := r.at (o := 8) (v := .string x) rfl
  have z := r.lt
  clear r
  have B2 := hide ((unhide B1).alloc (unhide B1).size (.cells #[.int .i64 t, .int .i64 o, .int .i64 k, .int .i64 u, .int .i64 0, .string ⟨#[]⟩, .string ⟨#[]⟩, .string ⟨#[]⟩, .string ⟨#[]⟩] 46))
  clear B1
  go_wp2_with fail
  all_goals go_ret
  all_goals exact ⟨rfl, unhide B2⟩

set_option maxHeartbeats 1000000 in
theorem iGoodChange_out (t o k u p : Int) (pa pt a x : ByteArray) (w : World) (h : stB t o = false ∨ (stB t o = true ∧ u < 1) ∨ (stB t o = true ∧ ¬ u < 1 ∧ 1000 < u)) :
    Calls Try.prog 43 #[.agg #[.int .i64 t, .int .i64 o, .int .i64 k, .int .i64 u, .int .i64 p, .string pa, .string pt, .string a, .string x]] w fun e w' => e = .returned (.bool false) ∧ Below w.heap.size w w' := by
  have q1 := hide (fun w => goodStamp_any t o w)
  rcases h with st | ⟨st, hu⟩ | ⟨st, hu, hv⟩
  all_goals
    rw [st] at q1
    clear st
    have R := hide (RowIs.new w #[.int .i64 t, .int .i64 o, .int .i64 k, .int .i64 u, .int .i64 p, .string pa, .string pt, .string a, .string x] 46)
    have B := hide (bAl (Below.refl w.heap.size w) (.cells #[.int .i64 t, .int .i64 o, .int .i64 k, .int .i64 u, .int .i64 p, .string pa, .string pt, .string a, .string x] 46))
    go_enter Try.func43, Try.ntmps43
    go_wp2_with fail
    refine (unhide q1 _).mono ?_
    rintro e w1 ⟨rfl, hb⟩
    have c3 := ((unhide R).keep hb).at (o := 3) (v := .int .i64 u) rfl
    have B1 := hide (bTr (unhide B) hb)
    clear hb R B q1
    go_wp2_with fail
    go_ret
    exact ⟨rfl, unhide B1⟩
end Go.Proofs.Ytpdnimchmgbijaa
