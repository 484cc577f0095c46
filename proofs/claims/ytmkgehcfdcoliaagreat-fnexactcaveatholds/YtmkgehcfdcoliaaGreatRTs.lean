/- spec.l6Value, l6Term, l6Record, TermHolds. -/
import Derived.Test.YtmkgehcfdcoliaaGreatRTp
namespace Go.Proofs.YtmkgehcfdcoliaaGreat.V
open Go.RowKit

/-- What is given under a param's name; false: nothing of its kind. -/
def valP (l : List ParamT) (g : ByteArray → Option AtomT) (s : ByteArray) : AtomT × Bool :=
  ((g s).getD zA, (findP l s).isSome && ((g s).isSome && ((((g s).getD zA).x) == ((findP l s).map (·.f1)).getD 0)))
def gOf (v : ValT) : ByteArray → Option AtomT := fldA v.names v.items
theorem gOf_ok {v : ValT} (h : v.Ok) (s : ByteArray) : ((gOf v s).getD zA).Ok := by
  cases e : gOf v s with
  | none => exact zA_ok
  | some a => exact h.items _ (fldA_mem e)
abbrev atomV (a : AtomT) : Value := .agg #[.int .i64 a.x, .int .i64 a.n, .string a.t, .string a.y]

theorem parV_eq (o : Option ParamT) : parV o = .agg #[.string ((o.map (·.f0)).getD empB), .int .i64 ((o.map (·.f1)).getD 0)] := by cases o <;> rfl

set_option maxRecDepth 20000 in
set_option maxHeartbeats 1000000 in
theorem l6Value_any (v : ValT) (a a1 a2 : Option Addr) (len cap l1 c1 l2 c2 : Nat) (l : List ParamT) (s : ByteArray) (w : World) (hlen : len ≤ 1048576) (hl : l2 ≤ 1000) (he : v.names.length = v.items.length) (hs : SlParam w a len l) (hs1 : SlA w a1 l1 v.items) (hs2 : SlS w a2 l2 v.names) :
    Calls Tryz.prog 59 #[.slice a len cap, vAgg v a1 l1 c1 a2 l2 c2, .string s] w fun e w' => e = .returned (.tuple #[atomV (valP l (gOf v) s).1, .bool (valP l (gOf v) s).2]) ∧ Below w.heap.size w w' := by
  have HS := hide hs
  have HS1 := hide hs1
  have HS2 := hide hs2
  have q1 := hide (fun w hs => l6Param_any a len cap l s w hlen hs)
  have q2 := hide (fun w hs1 hs2 => l6Field_any v a1 a2 l1 c1 l2 c2 s w hl he hs1 hs2)
  clear hs hs1 hs2 hlen hl he
  have E1 : Hid ((valP l (gOf v) s).1 = (fldA v.names v.items s).getD zA) := hide rfl
  have E2 : Hid ((valP l (gOf v) s).2 = ((findP l s).isSome && ((fldA v.names v.items s).isSome && ((((fldA v.names v.items s).getD zA).x) == ((findP l s).map (·.f1)).getD 0)))) := hide rfl
  generalize valP l (gOf v) s = P at *
  have q1' : Hid (∀ w, SlParam w a len l → Calls Tryz.prog 56 #[.slice a len cap, .string s] w fun e w' => e = .returned (.tuple #[.agg #[.string (((findP l s).map (·.f0)).getD empB), .int .i64 (((findP l s).map (·.f1)).getD 0)], .bool (findP l s).isSome]) ∧ Below w.heap.size w w') := hide (fun w hs => by have := unhide q1 w hs; rwa [parV_eq] at this)
  clear q1
  generalize ((findP l s).map (·.f0)).getD empB = F0 at *
  generalize ((findP l s).map (·.f1)).getD 0 = F1 at *
  generalize (findP l s).isSome = okP at *
  unfold AtomT.v at q2
  generalize (fldA v.names v.items s).getD zA = A at *
  generalize (fldA v.names v.items s).isSome = okF at *
  have B0 := hide (bAl (bAl (Below.refl w.heap.size w) (.cells #[.int .i64 v.k, .int .i64 v.a.x, .int .i64 v.a.n, .string v.a.t, .string v.a.y, .slice a1 l1 c1, .slice a2 l2 c2] 43)) (.cells #[.int .i64 0, .int .i64 0, .string empB, .string empB] 40))
  have V0 := hide ((RowIs.new w #[.int .i64 v.k, .int .i64 v.a.x, .int .i64 v.a.n, .string v.a.t, .string v.a.y, .slice a1 l1 c1, .slice a2 l2 c2] 43).keep (bAl (Below.refl _ _) (.cells #[.int .i64 0, .int .i64 0, .string empB, .string empB] 40)))
  have R0 := RowIs.new (w.alloc (.cells #[.int .i64 v.k, .int .i64 v.a.x, .int .i64 v.a.n, .string v.a.t, .string v.a.y, .slice a1 l1 c1, .slice a2 l2 c2] 43)) #[.int .i64 0, .int .i64 0, .string empB, .string empB] 40
  rw [World.size_alloc] at R0
  replace R0 := hide R0
  go_enter Tryz.func59, Tryz.ntmps59
  go_wp2_with fail
  refine (unhide q1' _ ((unhide HS).keep (unhide B0))).mono ?_
  rintro e w1 ⟨rfl, hb1⟩
  have s1 : w.heap.size + 1 + 1 ≤ w1.heap.size := by have := hb1.size; simpa using this
  obtain ⟨W1, hW1⟩ : ∃ W, W = w1.alloc (.cells #[.string F0, .int .i64 F1] 78) := ⟨_, rfl⟩
  have b1 : Below w1.heap.size w1 W1 := by rw [hW1]; exact bAl (Below.refl _ _) _
  have P1 := hide (show RowIs W1 w1.heap.size #[.string F0, .int .i64 F1] 78 by rw [hW1]; exact RowIs.new _ _ _)
  have B1 := hide (bTr (bTr (unhide B0) hb1) b1)
  have V1 := hide (((unhide V0).keep hb1).keep b1)
  have R1 := hide (((unhide R0).keep hb1).keep b1)
  have HW1 := hide hW1.symm
  have z1 : W1.heap.size = w1.heap.size + 1 := by rw [hW1]; simp
  have v0 := ((unhide V0).keep hb1).at (o := 0) (v := .int .i64 v.k) rfl
  have v1 := ((unhide V0).keep hb1).at (o := 1) (v := .int .i64 v.a.x) rfl
  have v2 := ((unhide V0).keep hb1).at (o := 2) (v := .int .i64 v.a.n) rfl
  have v3 := ((unhide V0).keep hb1).at (o := 3) (v := .string v.a.t) rfl
  have v4 := ((unhide V0).keep hb1).at (o := 4) (v := .string v.a.y) rfl
  have v5 := ((unhide V0).keep hb1).at (o := 5) (v := .slice a1 l1 c1) rfl
  have v6 := ((unhide V0).keep hb1).at (o := 6) (v := .slice a2 l2 c2) rfl
  have zv := ((unhide V0).keep hb1).lt
  clear hb1 b1 hW1 q1' B0 V0 R0
  go_wp2_with fail
  rw [unhide HW1]
  refine (unhide q2 _ ((unhide HS1).keep (unhide B1)) ((unhide HS2).keep (unhide B1))).mono ?_
  rintro e w2 ⟨rfl, hb2⟩
  have s2 : w1.heap.size + 1 ≤ w2.heap.size := by have := hb2.size; omega
  obtain ⟨W2, hW2⟩ : ∃ W, W = w2.alloc (.cells #[.int .i64 A.x, .int .i64 A.n, .string A.t, .string A.y] 40) := ⟨_, rfl⟩
  have b2 : Below w2.heap.size w2 W2 := by rw [hW2]; exact bAl (Below.refl _ _) _
  have A2 := (show RowIs W2 w2.heap.size #[.int .i64 A.x, .int .i64 A.n, .string A.t, .string A.y] 40 by rw [hW2]; exact RowIs.new _ _ _)
  have P2 := ((unhide P1).keep hb2).keep b2
  have B2 := hide (bTr (bTr (unhide B1) hb2) b2)
  have R2 := hide (((unhide R1).keep hb2).keep b2)
  have HW2 := hide hW2.symm
  clear hb2 b2 hW2 q2 B1 V1 R1 P1 v0 v1 v2 v3 v4 v5 v6 zv HW1
  have zA2 := A2.lt
  have zP2 := P2.lt
  have zR2 := (unhide R2).lt
  have a0 := A2.at (o := 0) (v := .int .i64 A.x) rfl
  have a1' := A2.at (o := 1) (v := .int .i64 A.n) rfl
  have a2' := A2.at (o := 2) (v := .string A.t) rfl
  have a3 := A2.at (o := 3) (v := .string A.y) rfl
  have p1 := P2.at (o := 1) (v := .int .i64 F1) rfl
  have r0 := (unhide R2).at (o := 0) (v := .int .i64 0) rfl
  have r1 := (unhide R2).at (o := 1) (v := .int .i64 0) rfl
  have r2 := (unhide R2).at (o := 2) (v := .string empB) rfl
  have r3 := (unhide R2).at (o := 3) (v := .string empB) rfl
  have g0 := (unhide R2).froz 0
  have g1 := (unhide R2).froz 1
  have g2 := (unhide R2).froz 2
  have g3 := (unhide R2).froz 3
  have n1 : w2.heap.size ≠ w.heap.size + 1 := by omega
  have n2 : w1.heap.size ≠ w.heap.size + 1 := by omega
  have n3 : w.heap.size + 1 ≠ w2.heap.size := by omega
  have n4 : w.heap.size + 1 ≠ w1.heap.size := by omega
  clear A2 P2
  go_wp2_with fail
  rw [unhide HW2]
  clear HW2
  cases okP
  · go_region
    all_goals go_wp2_with fail
    have rr := ((((unhide R2).set 0 (.int .i64 A.x)).set 1 (.int .i64 A.n)).set 2 (.string A.t)).set 3 (.string A.y)
    have x0 := rr.at (o := 0) (v := .int .i64 A.x) rfl
    have x1 := rr.at (o := 1) (v := .int .i64 A.n) rfl
    have x2 := rr.at (o := 2) (v := .string A.t) rfl
    have x3 := rr.at (o := 3) (v := .string A.y) rfl
    refine bodyPost_ret (v := .tuple #[atomV A, .bool false]) (by simp [results, Tryz.results59, go_sem, x0, x1, x2, x3]) rfl ⟨by rw [unhide E1, unhide E2]; rfl, ?_⟩
    (repeat (first | exact unhide B2 | refine Below.drew ?_ | refine Below.setCell ?_ (by show w.heap.size ≤ w.heap.size + 1; omega) _))
  · cases okF
    · go_region
      all_goals go_wp2_with fail
      have rr := ((((unhide R2).set 0 (.int .i64 A.x)).set 1 (.int .i64 A.n)).set 2 (.string A.t)).set 3 (.string A.y)
      have x0 := rr.at (o := 0) (v := .int .i64 A.x) rfl
      have x1 := rr.at (o := 1) (v := .int .i64 A.n) rfl
      have x2 := rr.at (o := 2) (v := .string A.t) rfl
      have x3 := rr.at (o := 3) (v := .string A.y) rfl
      refine bodyPost_ret (v := .tuple #[atomV A, .bool false]) (by simp [results, Tryz.results59, go_sem, x0, x1, x2, x3]) rfl ⟨by rw [unhide E1, unhide E2]; rfl, ?_⟩
      (repeat (first | exact unhide B2 | refine Below.drew ?_ | refine Below.setCell ?_ (by show w.heap.size ≤ w.heap.size + 1; omega) _))
    · go_region
      all_goals go_wp2_with fail
      have rr := ((((unhide R2).set 0 (.int .i64 A.x)).set 1 (.int .i64 A.n)).set 2 (.string A.t)).set 3 (.string A.y)
      have x0 := rr.at (o := 0) (v := .int .i64 A.x) rfl
      have x1 := rr.at (o := 1) (v := .int .i64 A.n) rfl
      have x2 := rr.at (o := 2) (v := .string A.t) rfl
      have x3 := rr.at (o := 3) (v := .string A.y) rfl
      refine bodyPost_ret (v := .tuple #[atomV A, .bool (A.x == F1)]) (by simp [results, Tryz.results59, go_sem, x0, x1, x2, x3]) rfl ⟨by rw [unhide E1, unhide E2]; rfl, ?_⟩
      (repeat (first | exact unhide B2 | refine Below.drew ?_ | refine Below.setCell ?_ (by show w.heap.size ≤ w.heap.size + 1; omega) _))
end Go.Proofs.YtmkgehcfdcoliaaGreat.V
