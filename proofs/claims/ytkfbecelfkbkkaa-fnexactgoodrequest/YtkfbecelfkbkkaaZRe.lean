/- GoodRequest, both sides. -/
import Derived.Test.YtkfbecelfkbkkaaZFd
import Derived.Test.YtkfbecelfkbkkaaZRq
namespace Go.Proofs.Ytkfbecelfkbkkaa.V
set_option linter.unusedSimpArgs false
open Go.RowKit

def GReq (x : RequestT) : Prop := refA x.f0 = true ∧ refA x.f1 = true ∧ refA x.f2 = true ∧ Fields x.f3 x.f4
set_option maxHeartbeats 1000000 in
theorem rqFields_any (e : RequestE) (w : World) : Calls Try.prog 39 #[.agg #[.int .i64 e.t.f0.x, .int .i64 e.t.f0.n, .string e.t.f0.t, .string e.t.f0.y, .int .i64 e.t.f1.x, .int .i64 e.t.f1.n, .string e.t.f1.t, .string e.t.f1.y, .int .i64 e.t.f2.x, .int .i64 e.t.f2.n, .string e.t.f2.t, .string e.t.f2.y, .slice e.h3.a e.h3.len e.h3.cap, .slice e.h4.a e.h4.len e.h4.cap]] w fun r w' => r = .returned (.agg #[.slice e.h3.a e.h3.len e.h3.cap, .slice e.h4.a e.h4.len e.h4.cap]) ∧ Below w.heap.size w w' := by
  go_enter Try.func39, Try.ntmps39
  go_wp2_with fail
  exact bodyPost_ret (v := .agg #[.slice e.h3.a e.h3.len e.h3.cap, .slice e.h4.a e.h4.len e.h4.cap]) (by simp [results, Try.results39, go_sem]) rfl ⟨rfl, bAl (bAl (Below.refl _ _) _) _⟩
set_option maxRecDepth 20000 in
set_option maxHeartbeats 2000000 in
theorem iGoodRequest_n (e : RequestE) (w : World) (hn : RequestN e.t) (hm : RequestM w 0 e) :
    Calls Try.prog 14 #[.agg #[.int .i64 e.t.f0.x, .int .i64 e.t.f0.n, .string e.t.f0.t, .string e.t.f0.y, .int .i64 e.t.f1.x, .int .i64 e.t.f1.n, .string e.t.f1.t, .string e.t.f1.y, .int .i64 e.t.f2.x, .int .i64 e.t.f2.n, .string e.t.f2.t, .string e.t.f2.y, .slice e.h3.a e.h3.len e.h3.cap, .slice e.h4.a e.h4.len e.h4.cap]] w fun r w' => RetB r (GReq e.t) ∧ Below w.heap.size w w' := by
  have q0 := hide (fun w => isRef_any e.t.f0 w hn.o0)
  have q1 := hide (fun w => isRef_any e.t.f1 w hn.o1)
  have q2 := hide (fun w => isRef_any e.t.f2 w hn.o2)
  have q5 := hide (fun w sn sv => fieldsGood_any e.h3 e.h4 e.t.f3 e.t.f4 w hn.o3 hn.l3 hn.o4 hn.l4 sn sv)
  have R := hide (RowIs.new w #[.int .i64 e.t.f0.x, .int .i64 e.t.f0.n, .string e.t.f0.t, .string e.t.f0.y, .int .i64 e.t.f1.x, .int .i64 e.t.f1.n, .string e.t.f1.t, .string e.t.f1.y, .int .i64 e.t.f2.x, .int .i64 e.t.f2.n, .string e.t.f2.t, .string e.t.f2.y, .slice e.h3.a e.h3.len e.h3.cap, .slice e.h4.a e.h4.len e.h4.cap] 40)
  have B := hide (bAl (Below.refl w.heap.size w) (.cells #[.int .i64 e.t.f0.x, .int .i64 e.t.f0.n, .string e.t.f0.t, .string e.t.f0.y, .int .i64 e.t.f1.x, .int .i64 e.t.f1.n, .string e.t.f1.t, .string e.t.f1.y, .int .i64 e.t.f2.x, .int .i64 e.t.f2.n, .string e.t.f2.t, .string e.t.f2.y, .slice e.h3.a e.h3.len e.h3.cap, .slice e.h4.a e.h4.len e.h4.cap] 40))
  have M3 := hide hm.m3
  have M4 := hide hm.m4
  have D : Hid (GReq e.t ↔ (refA e.t.f0 = true ∧ refA e.t.f1 = true ∧ refA e.t.f2 = true ∧ Fields e.t.f3 e.t.f4)) := hide Iff.rfl
  generalize GReq e.t = G at D ⊢
  generalize Fields e.t.f3 e.t.f4 = FF at D q5
  generalize refA e.t.f0 = b0 at D q0
  generalize refA e.t.f1 = b1 at D q1
  generalize refA e.t.f2 = b2 at D q2
  clear hn hm
  go_enter Try.func14, Try.ntmps14
  go_wp2_with fail
  refine (unhide q0 _).mono ?_
  rintro r w0 ⟨⟨v0, rfl, hv0⟩, hb⟩
  replace R := hide ((unhide R).keep hb)
  replace B := hide (bTr (unhide B) hb)
  clear hb q0
  cases v0
  case false =>
    have no : Hid (¬ G) := hide (fun h => by have := hv0.2 ((unhide D).1 h).1; cases this)
    clear D hv0
    go_wp2_with fail
    go_ret
    exact ⟨retB (b := false) ⟨fun h => (by cases h), fun h => absurd h (unhide no)⟩, unhide B⟩
  have g0 := hide (hv0.1 rfl)
  clear hv0
  have c4 := (unhide R).at (o := 4) (v := .int .i64 e.t.f1.x) rfl
  have c5 := (unhide R).at (o := 5) (v := .int .i64 e.t.f1.n) rfl
  have c6 := (unhide R).at (o := 6) (v := .string e.t.f1.t) rfl
  have c7 := (unhide R).at (o := 7) (v := .string e.t.f1.y) rfl
  go_wp2_with fail
  refine (unhide q1 _).mono ?_
  rintro r w1 ⟨⟨v1, rfl, hv1⟩, hb⟩
  replace R := hide ((unhide R).keep hb)
  replace B := hide (bTr (unhide B) hb)
  clear hb q1 c4 c5 c6 c7
  cases v1
  case false =>
    have no : Hid (¬ G) := hide (fun h => by have := hv1.2 ((unhide D).1 h).2.1; cases this)
    clear D hv1
    go_wp2_with fail
    go_ret
    exact ⟨retB (b := false) ⟨fun h => (by cases h), fun h => absurd h (unhide no)⟩, unhide B⟩
  have g1 := hide (hv1.1 rfl)
  clear hv1
  have c8 := (unhide R).at (o := 8) (v := .int .i64 e.t.f2.x) rfl
  have c9 := (unhide R).at (o := 9) (v := .int .i64 e.t.f2.n) rfl
  have c10 := (unhide R).at (o := 10) (v := .string e.t.f2.t) rfl
  have c11 := (unhide R).at (o := 11) (v := .string e.t.f2.y) rfl
  go_wp2_with fail
  refine (unhide q2 _).mono ?_
  rintro r w2 ⟨⟨v2, rfl, hv2⟩, hb⟩
  replace R := hide ((unhide R).keep hb)
  replace B := hide (bTr (unhide B) hb)
  clear hb q2 c8 c9 c10 c11
  cases v2
  case false =>
    have no : Hid (¬ G) := hide (fun h => by have := hv2.2 ((unhide D).1 h).2.2.1; cases this)
    clear D hv2
    go_wp2_with fail
    go_ret
    exact ⟨retB (b := false) ⟨fun h => (by cases h), fun h => absurd h (unhide no)⟩, unhide B⟩
  have g2 := hide (hv2.1 rfl)
  clear hv2
  have D2 : Hid (G ↔ FF) := hide ⟨fun h => ((unhide D).1 h).2.2.2, fun h => (unhide D).2 ⟨unhide g0, unhide g1, unhide g2, h⟩⟩
  clear D g0 g1 g2
  have c0 := (unhide R).at (o := 0) (v := .int .i64 e.t.f0.x) rfl
  have c1 := (unhide R).at (o := 1) (v := .int .i64 e.t.f0.n) rfl
  have c2 := (unhide R).at (o := 2) (v := .string e.t.f0.t) rfl
  have c3 := (unhide R).at (o := 3) (v := .string e.t.f0.y) rfl
  have c4 := (unhide R).at (o := 4) (v := .int .i64 e.t.f1.x) rfl
  have c5 := (unhide R).at (o := 5) (v := .int .i64 e.t.f1.n) rfl
  have c6 := (unhide R).at (o := 6) (v := .string e.t.f1.t) rfl
  have c7 := (unhide R).at (o := 7) (v := .string e.t.f1.y) rfl
  have c8 := (unhide R).at (o := 8) (v := .int .i64 e.t.f2.x) rfl
  have c9 := (unhide R).at (o := 9) (v := .int .i64 e.t.f2.n) rfl
  have c10 := (unhide R).at (o := 10) (v := .string e.t.f2.t) rfl
  have c11 := (unhide R).at (o := 11) (v := .string e.t.f2.y) rfl
  have c12 := (unhide R).at (o := 12) (v := .slice e.h3.a e.h3.len e.h3.cap) rfl
  have c13 := (unhide R).at (o := 13) (v := .slice e.h4.a e.h4.len e.h4.cap) rfl
  go_wp2_with fail
  refine (rqFields_any e _).mono ?_
  rintro r w4 ⟨rfl, hb⟩
  replace B := hide (bTr (unhide B) hb)
  clear hb R c0 c1 c2 c3 c4 c5 c6 c7 c8 c9 c10 c11 c12 c13
  go_wp2_with fail
  refine (unhide q5 _ ((unhide M3).keep (unhide B)) ((unhide M4).keep (unhide B))).mono ?_
  rintro r w5 ⟨⟨v, rfl, hv⟩, hb⟩
  have HV := hide hv
  replace B := hide (bTr (unhide B) hb)
  clear hb hv q5
  go_wp2_with fail
  go_ret
  exact ⟨retB (b := v) ((unhide HV).trans (unhide D2).symm), unhide B⟩
set_option maxRecDepth 20000 in
set_option maxHeartbeats 2000000 in
theorem sGoodRequest_n (e : RequestE) (w : World) (hn : RequestN e.t) (hm : RequestM w 0 e) :
    Calls Try.prog 12 #[.agg #[.int .i64 e.t.f0.x, .int .i64 e.t.f0.n, .string e.t.f0.t, .string e.t.f0.y, .int .i64 e.t.f1.x, .int .i64 e.t.f1.n, .string e.t.f1.t, .string e.t.f1.y, .int .i64 e.t.f2.x, .int .i64 e.t.f2.n, .string e.t.f2.t, .string e.t.f2.y, .slice e.h3.a e.h3.len e.h3.cap, .slice e.h4.a e.h4.len e.h4.cap]] w fun r w' => RetB r (GReq e.t) ∧ Below w.heap.size w w' := by
  have q0 := hide (fun w => l11Ref_any e.t.f0 w hn.o0)
  have q1 := hide (fun w => l11Ref_any e.t.f1 w hn.o1)
  have q2 := hide (fun w => l11Ref_any e.t.f2 w hn.o2)
  have q5 := hide (fun w sn sv => l11Fields_any e.h3 e.h4 e.t.f3 e.t.f4 w hn.o3 hn.l3 hn.o4 hn.l4 sn sv)
  have R := hide (RowIs.new w #[.int .i64 e.t.f0.x, .int .i64 e.t.f0.n, .string e.t.f0.t, .string e.t.f0.y, .int .i64 e.t.f1.x, .int .i64 e.t.f1.n, .string e.t.f1.t, .string e.t.f1.y, .int .i64 e.t.f2.x, .int .i64 e.t.f2.n, .string e.t.f2.t, .string e.t.f2.y, .slice e.h3.a e.h3.len e.h3.cap, .slice e.h4.a e.h4.len e.h4.cap] 40)
  have B := hide (bAl (Below.refl w.heap.size w) (.cells #[.int .i64 e.t.f0.x, .int .i64 e.t.f0.n, .string e.t.f0.t, .string e.t.f0.y, .int .i64 e.t.f1.x, .int .i64 e.t.f1.n, .string e.t.f1.t, .string e.t.f1.y, .int .i64 e.t.f2.x, .int .i64 e.t.f2.n, .string e.t.f2.t, .string e.t.f2.y, .slice e.h3.a e.h3.len e.h3.cap, .slice e.h4.a e.h4.len e.h4.cap] 40))
  have M3 := hide hm.m3
  have M4 := hide hm.m4
  have D : Hid (GReq e.t ↔ (refA e.t.f0 = true ∧ refA e.t.f1 = true ∧ refA e.t.f2 = true ∧ Fields e.t.f3 e.t.f4)) := hide Iff.rfl
  generalize GReq e.t = G at D ⊢
  generalize Fields e.t.f3 e.t.f4 = FF at D q5
  generalize refA e.t.f0 = b0 at D q0
  generalize refA e.t.f1 = b1 at D q1
  generalize refA e.t.f2 = b2 at D q2
  clear hn hm
  go_enter Try.func12, Try.ntmps12
  go_wp2_with fail
  refine (unhide q0 _).mono ?_
  rintro r w0 ⟨⟨v0, rfl, hv0⟩, hb⟩
  replace R := hide ((unhide R).keep hb)
  replace B := hide (bTr (unhide B) hb)
  clear hb q0
  cases v0
  case false =>
    have no : Hid (¬ G) := hide (fun h => by have := hv0.2 ((unhide D).1 h).1; cases this)
    clear D hv0
    go_wp2_with fail
    go_ret
    exact ⟨retB (b := false) ⟨fun h => (by cases h), fun h => absurd h (unhide no)⟩, unhide B⟩
  have g0 := hide (hv0.1 rfl)
  clear hv0
  have c4 := (unhide R).at (o := 4) (v := .int .i64 e.t.f1.x) rfl
  have c5 := (unhide R).at (o := 5) (v := .int .i64 e.t.f1.n) rfl
  have c6 := (unhide R).at (o := 6) (v := .string e.t.f1.t) rfl
  have c7 := (unhide R).at (o := 7) (v := .string e.t.f1.y) rfl
  go_wp2_with fail
  refine (unhide q1 _).mono ?_
  rintro r w1 ⟨⟨v1, rfl, hv1⟩, hb⟩
  replace R := hide ((unhide R).keep hb)
  replace B := hide (bTr (unhide B) hb)
  clear hb q1 c4 c5 c6 c7
  cases v1
  case false =>
    have no : Hid (¬ G) := hide (fun h => by have := hv1.2 ((unhide D).1 h).2.1; cases this)
    clear D hv1
    go_wp2_with fail
    go_ret
    exact ⟨retB (b := false) ⟨fun h => (by cases h), fun h => absurd h (unhide no)⟩, unhide B⟩
  have g1 := hide (hv1.1 rfl)
  clear hv1
  have c8 := (unhide R).at (o := 8) (v := .int .i64 e.t.f2.x) rfl
  have c9 := (unhide R).at (o := 9) (v := .int .i64 e.t.f2.n) rfl
  have c10 := (unhide R).at (o := 10) (v := .string e.t.f2.t) rfl
  have c11 := (unhide R).at (o := 11) (v := .string e.t.f2.y) rfl
  go_wp2_with fail
  refine (unhide q2 _).mono ?_
  rintro r w2 ⟨⟨v2, rfl, hv2⟩, hb⟩
  replace R := hide ((unhide R).keep hb)
  replace B := hide (bTr (unhide B) hb)
  clear hb q2 c8 c9 c10 c11
  cases v2
  case false =>
    have no : Hid (¬ G) := hide (fun h => by have := hv2.2 ((unhide D).1 h).2.2.1; cases this)
    clear D hv2
    go_wp2_with fail
    go_ret
    exact ⟨retB (b := false) ⟨fun h => (by cases h), fun h => absurd h (unhide no)⟩, unhide B⟩
  have g2 := hide (hv2.1 rfl)
  clear hv2
  have D2 : Hid (G ↔ FF) := hide ⟨fun h => ((unhide D).1 h).2.2.2, fun h => (unhide D).2 ⟨unhide g0, unhide g1, unhide g2, h⟩⟩
  clear D g0 g1 g2
  have c12 := (unhide R).at (o := 12) (v := .slice e.h3.a e.h3.len e.h3.cap) rfl
  have c13 := (unhide R).at (o := 13) (v := .slice e.h4.a e.h4.len e.h4.cap) rfl
  go_wp2_with fail
  refine (unhide q5 _ ((unhide M3).keep (unhide B)) ((unhide M4).keep (unhide B))).mono ?_
  rintro r w5 ⟨⟨v, rfl, hv⟩, hb⟩
  have HV := hide hv
  replace B := hide (bTr (unhide B) hb)
  clear hb hv q5
  go_wp2_with fail
  go_ret
  exact ⟨retB (b := v) ((unhide HV).trans (unhide D2).symm), unhide B⟩
end Go.Proofs.Ytkfbecelfkbkkaa.V
