/- RTs, RTt, one behind the other. -/
import Derived.Test.YtdflnjjomljgmaaGreatDoorJ36
/- spec.l6Value, l6Term, l6Record, TermHolds. -/
namespace Go.Proofs.YtdflnjjomljgmaaGreatDoor.V
open Go.RowKit

/-- What is given under a param's name; false: nothing of its kind. -/
def valP (l : List ParamT) (g : ByteArray → Option AtomT) (s : ByteArray) : AtomT × Bool :=
  ((g s).getD zA, (findP l s).isSome && ((g s).isSome && ((((g s).getD zA).x) == ((findP l s).map (·.f1)).getD 0)))
def gOf (v : ValT) : ByteArray → Option AtomT := fldA v.names v.items
theorem gOf_ok {v : ValT} (h : v.Ok) (s : ByteArray) : ((gOf v s).getD zA).Ok := by
  cases e : gOf v s with
  | none => exact zA_ok
  | some a => exact h.items _ (fldA_mem e)
abbrev atomV (a : AtomT) : Value := .agg #[.int .i64 a.x, .int .i64 a.n, .string a.t, .string a.y]

theorem parV_eq (o : Option ParamT) : parV o = .agg #[.string ((o.map (·.f0)).getD empB), .int .i64 ((o.map (·.f1)).getD 0)] := by cases o <;> rfl

set_option maxRecDepth 20000 in
set_option maxHeartbeats 1000000 in
theorem l6Value_any (v : ValT) (a a1 a2 : Option Addr) (len cap l1 c1 l2 c2 : Nat) (l : List ParamT) (s : ByteArray) (w : World) (hlen : len ≤ 1048576) (hl : l2 ≤ 1000) (he : v.names.length = v.items.length) (hs : SlParam w a len l) (hs1 : SlA w a1 l1 v.items) (hs2 : SlS w a2 l2 v.names) :
    Calls Tryz.prog 44 #[.slice a len cap, vAgg v a1 l1 c1 a2 l2 c2, .string s] w fun e w' => e = .returned (.tuple #[atomV (valP l (gOf v) s).1, .bool (valP l (gOf v) s).2]) ∧ Below w.heap.size w w' := by
  have HS := hide hs
  have HS1 := hide hs1
  have HS2 := hide hs2
  have q1 := hide (fun w hs => l6Param_any a len cap l s w hlen hs)
  have q2 := hide (fun w hs1 hs2 => l6Field_any v a1 a2 l1 c1 l2 c2 s w hl he hs1 hs2)
  clear hs hs1 hs2 hlen hl he
  have E1 : Hid ((valP l (gOf v) s).1 = (fldA v.names v.items s).getD zA) := hide rfl
  have E2 : Hid ((valP l (gOf v) s).2 = ((findP l s).isSome && ((fldA v.names v.items s).isSome && ((((fldA v.names v.items s).getD zA).x) == ((findP l s).map (·.f1)).getD 0)))) := hide rfl
  generalize valP l (gOf v) s = P at *
  have q1' : Hid (∀ w, SlParam w a len l → Calls Tryz.prog 69 #[.slice a len cap, .string s] w fun e w' => e = .returned (.tuple #[.agg #[.string (((findP l s).map (·.f0)).getD empB), .int .i64 (((findP l s).map (·.f1)).getD 0)], .bool (findP l s).isSome]) ∧ Below w.heap.size w w') := hide (fun w hs => by have := unhide q1 w hs; rwa [parV_eq] at this)
  clear q1
  generalize ((findP l s).map (·.f0)).getD empB = F0 at *
  generalize ((findP l s).map (·.f1)).getD 0 = F1 at *
  generalize (findP l s).isSome = okP at *
  unfold AtomT.v at q2
  generalize (fldA v.names v.items s).getD zA = A at *
  generalize (fldA v.names v.items s).isSome = okF at *
  have B0 := hide (bAl (bAl (Below.refl w.heap.size w) (.cells #[.int .i64 v.k, .int .i64 v.a.x, .int .i64 v.a.n, .string v.a.t, .string v.a.y, .slice a1 l1 c1, .slice a2 l2 c2] 43)) (.cells #[.int .i64 0, .int .i64 0, .string empB, .string empB] 40))
  have V0 := hide ((RowIs.new w #[.int .i64 v.k, .int .i64 v.a.x, .int .i64 v.a.n, .string v.a.t, .string v.a.y, .slice a1 l1 c1, .slice a2 l2 c2] 43).keep (bAl (Below.refl _ _) (.cells #[.int .i64 0, .int .i64 0, .string empB, .string empB] 40)))
  have R0 := RowIs.new (w.alloc (.cells #[.int .i64 v.k, .int .i64 v.a.x, .int .i64 v.a.n, .string v.a.t, .string v.a.y, .slice a1 l1 c1, .slice a2 l2 c2] 43)) #[.int .i64 0, .int .i64 0, .string empB, .string empB] 40
  rw [World.size_alloc] at R0
  replace R0 := hide R0
  go_enter Tryz.func44, Tryz.ntmps44
  go_wp2_with fail
  refine (unhide q1' _ ((unhide HS).keep (unhide B0))).mono ?_
  rintro e w1 ⟨rfl, hb1⟩
  have s1 : w.heap.size + 1 + 1 ≤ w1.heap.size := by have := hb1.size; simpa using this
  obtain ⟨W1, hW1⟩ : ∃ W, W = w1.alloc (.cells #[.string F0, .int .i64 F1] 62) := ⟨_, rfl⟩
  have b1 : Below w1.heap.size w1 W1 := by rw [hW1]; exact bAl (Below.refl _ _) _
  have P1 := hide (show RowIs W1 w1.heap.size #[.string F0, .int .i64 F1] 62 by rw [hW1]; exact RowIs.new _ _ _)
  have B1 := hide (bTr (bTr (unhide B0) hb1) b1)
  have V1 := hide (((unhide V0).keep hb1).keep b1)
  have R1 := hide (((unhide R0).keep hb1).keep b1)
  have HW1 := hide hW1.symm
  have z1 : W1.heap.size = w1.heap.size + 1 := by rw [hW1]; simp
  have v0 := ((unhide V0).keep hb1).at (o := 0) (v := .int .i64 v.k) rfl
  have v1 := ((unhide V0).keep hb1).at (o := 1) (v := .int .i64 v.a.x) rfl
  have v2 := ((unhide V0).keep hb1).at (o := 2) (v := .int .i64 v.a.n) rfl
  have v3 := ((unhide V0).keep hb1).at (o := 3) (v := .string v.a.t) rfl
  have v4 := ((unhide V0).keep hb1).at (o := 4) (v := .string v.a.y) rfl
  have v5 := ((unhide V0).keep hb1).at (o := 5) (v := .slice a1 l1 c1) rfl
  have v6 := ((unhide V0).keep hb1).at (o := 6) (v := .slice a2 l2 c2) rfl
  have zv := ((unhide V0).keep hb1).lt
  clear hb1 b1 hW1 q1' B0 V0 R0
  go_wp2_with fail
  rw [unhide HW1]
  refine (unhide q2 _ ((unhide HS1).keep (unhide B1)) ((unhide HS2).keep (unhide B1))).mono ?_
  rintro e w2 ⟨rfl, hb2⟩
  have s2 : w1.heap.size + 1 ≤ w2.heap.size := by have := hb2.size; omega
  obtain ⟨W2, hW2⟩ : ∃ W, W = w2.alloc (.cells #[.int .i64 A.x, .int .i64 A.n, .string A.t, .string A.y] 40) := ⟨_, rfl⟩
  have b2 : Below w2.heap.size w2 W2 := by rw [hW2]; exact bAl (Below.refl _ _) _
  have A2 := (show RowIs W2 w2.heap.size #[.int .i64 A.x, .int .i64 A.n, .string A.t, .string A.y] 40 by rw [hW2]; exact RowIs.new _ _ _)
  have P2 := ((unhide P1).keep hb2).keep b2
  have B2 := hide (bTr (bTr (unhide B1) hb2) b2)
  have R2 := hide (((unhide R1).keep hb2).keep b2)
  have HW2 := hide hW2.symm
  clear hb2 b2 hW2 q2 B1 V1 R1 P1 v0 v1 v2 v3 v4 v5 v6 zv HW1
  have zA2 := A2.lt
  have zP2 := P2.lt
  have zR2 := (unhide R2).lt
  have a0 := A2.at (o := 0) (v := .int .i64 A.x) rfl
  have a1' := A2.at (o := 1) (v := .int .i64 A.n) rfl
  have a2' := A2.at (o := 2) (v := .string A.t) rfl
  have a3 := A2.at (o := 3) (v := .string A.y) rfl
  have p1 := P2.at (o := 1) (v := .int .i64 F1) rfl
  have r0 := (unhide R2).at (o := 0) (v := .int .i64 0) rfl
  have r1 := (unhide R2).at (o := 1) (v := .int .i64 0) rfl
  have r2 := (unhide R2).at (o := 2) (v := .string empB) rfl
  have r3 := (unhide R2).at (o := 3) (v := .string empB) rfl
  have g0 := (unhide R2).froz 0
  have g1 := (unhide R2).froz 1
  have g2 := (unhide R2).froz 2
  have g3 := (unhide R2).froz 3
  have n1 : w2.heap.size ≠ w.heap.size + 1 := by omega
  have n2 : w1.heap.size ≠ w.heap.size + 1 := by omega
  have n3 : w.heap.size + 1 ≠ w2.heap.size := by omega
  have n4 : w.heap.size + 1 ≠ w1.heap.size := by omega
  clear A2 P2
  go_wp2_with fail
  rw [unhide HW2]
  clear HW2
  cases okP
  · go_region
    all_goals go_wp2_with fail
    have rr := ((((unhide R2).set 0 (.int .i64 A.x)).set 1 (.int .i64 A.n)).set 2 (.string A.t)).set 3 (.string A.y)
    have x0 := rr.at (o := 0) (v := .int .i64 A.x) rfl
    have x1 := rr.at (o := 1) (v := .int .i64 A.n) rfl
    have x2 := rr.at (o := 2) (v := .string A.t) rfl
    have x3 := rr.at (o := 3) (v := .string A.y) rfl
    refine bodyPost_ret (v := .tuple #[atomV A, .bool false]) (by simp [results, Tryz.results44, go_sem, x0, x1, x2, x3]) rfl ⟨by rw [unhide E1, unhide E2]; rfl, ?_⟩
    (repeat (first | exact unhide B2 | refine Below.drew ?_ | refine Below.setCell ?_ (by show w.heap.size ≤ w.heap.size + 1; omega) _))
  · cases okF
    · go_region
      all_goals go_wp2_with fail
      have rr := ((((unhide R2).set 0 (.int .i64 A.x)).set 1 (.int .i64 A.n)).set 2 (.string A.t)).set 3 (.string A.y)
      have x0 := rr.at (o := 0) (v := .int .i64 A.x) rfl
      have x1 := rr.at (o := 1) (v := .int .i64 A.n) rfl
      have x2 := rr.at (o := 2) (v := .string A.t) rfl
      have x3 := rr.at (o := 3) (v := .string A.y) rfl
      refine bodyPost_ret (v := .tuple #[atomV A, .bool false]) (by simp [results, Tryz.results44, go_sem, x0, x1, x2, x3]) rfl ⟨by rw [unhide E1, unhide E2]; rfl, ?_⟩
      (repeat (first | exact unhide B2 | refine Below.drew ?_ | refine Below.setCell ?_ (by show w.heap.size ≤ w.heap.size + 1; omega) _))
    · go_region
      all_goals go_wp2_with fail
      have rr := ((((unhide R2).set 0 (.int .i64 A.x)).set 1 (.int .i64 A.n)).set 2 (.string A.t)).set 3 (.string A.y)
      have x0 := rr.at (o := 0) (v := .int .i64 A.x) rfl
      have x1 := rr.at (o := 1) (v := .int .i64 A.n) rfl
      have x2 := rr.at (o := 2) (v := .string A.t) rfl
      have x3 := rr.at (o := 3) (v := .string A.y) rfl
      refine bodyPost_ret (v := .tuple #[atomV A, .bool (A.x == F1)]) (by simp [results, Tryz.results44, go_sem, x0, x1, x2, x3]) rfl ⟨by rw [unhide E1, unhide E2]; rfl, ?_⟩
      (repeat (first | exact unhide B2 | refine Below.drew ?_ | refine Below.setCell ?_ (by show w.heap.size ≤ w.heap.size + 1; omega) _))
end Go.Proofs.YtdflnjjomljgmaaGreatDoor.V
/- spec.l6Term. -/
namespace Go.Proofs.YtdflnjjomljgmaaGreatDoor.V
open Go.RowKit

def opH (op : Int) (a b : AtomT) : Bool :=
  if op = 1 then cmpG a.x a.n a.t a.y b.x b.n b.t b.y == 0 else if op = 2 then cmpG a.x a.n a.t a.y b.x b.n b.t b.y == -1
  else if op = 3 then (cmpG a.x a.n a.t a.y b.x b.n b.t b.y == -1 || cmpG a.x a.n a.t a.y b.x b.n b.t b.y == 0) else addrInB a.x a.n a.t a.y b.x b.n b.t b.y
def said (b : Bool) : Int := if b = true then 1 else 0
/-- What a term is, of its two sides. -/
def tRes (op : Int) (A B : AtomT × Bool) : Int := if A.2 = true ∧ B.2 = true then said (opH op A.1 B.1) else 2
def tAtom (t : CavTermT) : AtomT := ⟨t.f3, t.f4, t.f5, t.f6⟩
def sideR (l : List ParamT) (g : ByteArray → Option AtomT) (t : CavTermT) : AtomT × Bool := if t.f2 = empB then (tAtom t, true) else valP l g t.f2
def termR (l : List ParamT) (g : ByteArray → Option AtomT) (t : CavTermT) : Int := tRes t.f1 (valP l g t.f0) (sideR l g t)

theorem l3Said_any (b : Bool) (w : World) : Calls Tryz.prog 45 #[.bool b] w fun e w' => e = .returned (.int .i64 (said b)) ∧ w = w' := by
  cases b
  all_goals go_enter Tryz.func45, Tryz.ntmps45
  all_goals go_wp2
  all_goals go_ret
  all_goals exact ⟨rfl, rfl⟩

set_option maxRecDepth 20000 in
set_option maxHeartbeats 1000000 in
theorem l6Term_any (t : CavTermT) (v : ValT) (a a1 a2 : Option Addr) (len cap l1 c1 l2 c2 : Nat) (l : List ParamT) (w : World) (ht : t.Ok) (hv : v.Ok) (hlen : len ≤ 1048576) (hl : l2 ≤ 1000) (he : v.names.length = v.items.length) (hs : SlParam w a len l) (hs1 : SlA w a1 l1 v.items) (hs2 : SlS w a2 l2 v.names) :
    Calls Tryz.prog 23 #[tAgg t, .slice a len cap, vAgg v a1 l1 c1 a2 l2 c2] w fun e w' => e = .returned (.int .i64 (termR l (gOf v) t)) ∧ Below w.heap.size w w' := by
  have HS := hide hs
  have HS1 := hide hs1
  have HS2 := hide hs2
  have q1 := hide (fun s w hs hs1 hs2 => l6Value_any v a a1 a2 len cap l1 c1 l2 c2 l s w hlen hl he hs hs1 hs2)
  have oA : Hid ((valP l (gOf v) t.f0).1.Ok) := hide (gOf_ok hv _)
  have oB : Hid ((sideR l (gOf v) t).1.Ok) := hide (by unfold sideR; split; exact ⟨ht.n8, ht.n9, ht.o5, ht.o6⟩; exact gOf_ok hv _)
  clear hs hs1 hs2 hlen hl he ht hv
  have HT : Hid (termR l (gOf v) t = tRes t.f1 (valP l (gOf v) t.f0) (sideR l (gOf v) t)) := hide rfl
  have HR : Hid (sideR l (gOf v) t = if t.f2 = empB then (tAtom t, true) else valP l (gOf v) t.f2) := hide rfl
  generalize termR l (gOf v) t = RES at *
  generalize sideR l (gOf v) t = SB at *
  obtain ⟨WA, hWA⟩ : ∃ W, W = w.alloc (.cells #[.string t.f0, .int .i64 t.f1, .string t.f2, .int .i64 t.f3, .int .i64 t.f4, .string t.f5, .string t.f6] 58) := ⟨_, rfl⟩
  obtain ⟨W0, hW0⟩ : ∃ W, W = WA.alloc (.cells #[.int .i64 v.k, .int .i64 v.a.x, .int .i64 v.a.n, .string v.a.t, .string v.a.y, .slice a1 l1 c1, .slice a2 l2 c2] 43) := ⟨_, rfl⟩
  have zA' : WA.heap.size = w.heap.size + 1 := by rw [hWA]; simp
  have bA : Below w.heap.size w WA := by rw [hWA]; exact bAl (Below.refl _ _) _
  have b0 : Below WA.heap.size WA W0 := by rw [hW0]; exact bAl (Below.refl _ _) _
  have T0 := hide ((show RowIs WA w.heap.size #[.string t.f0, .int .i64 t.f1, .string t.f2, .int .i64 t.f3, .int .i64 t.f4, .string t.f5, .string t.f6] 58 by rw [hWA]; exact RowIs.new _ _ _).keep b0)
  have V0 := hide (show RowIs W0 (w.heap.size + 1) #[.int .i64 v.k, .int .i64 v.a.x, .int .i64 v.a.n, .string v.a.t, .string v.a.y, .slice a1 l1 c1, .slice a2 l2 c2] 43 by rw [hW0, ← zA']; exact RowIs.new _ _ _)
  have B0 := hide (bTr bA b0)
  have s0 : w.heap.size + 1 + 1 ≤ W0.heap.size := by rw [hW0]; simp; omega
  have HW0 := hide (show (w.alloc (.cells #[.string t.f0, .int .i64 t.f1, .string t.f2, .int .i64 t.f3, .int .i64 t.f4, .string t.f5, .string t.f6] 58)).alloc (.cells #[.int .i64 v.k, .int .i64 v.a.x, .int .i64 v.a.n, .string v.a.t, .string v.a.y, .slice a1 l1 c1, .slice a2 l2 c2] 43) = W0 by rw [hW0, hWA])
  clear hWA hW0 zA' bA b0
  go_enter Tryz.func23, Tryz.ntmps23
  go_wp2_with fail
  rw [unhide HW0]
  refine (unhide q1 _ _ ((unhide HS).keep (unhide B0)) ((unhide HS1).keep (unhide B0)) ((unhide HS2).keep (unhide B0))).mono ?_
  rintro e w1 ⟨rfl, hb1⟩
  have s1 : w.heap.size + 1 + 1 ≤ w1.heap.size := Nat.le_trans s0 hb1.size
  have T1 := hide ((unhide T0).keep hb1)
  have V1 := hide ((unhide V0).keep hb1)
  have B1 := hide (bTr (unhide B0) hb1)
  clear hb1 B0 T0 V0 HW0 s0
  generalize valP l (gOf v) t.f0 = SA at *
  obtain ⟨A, okA⟩ := SA
  simp only at oA HT ⊢
  have t1 := (unhide T1).at (o := 1) (v := .int .i64 t.f1) rfl
  have t2 := (unhide T1).at (o := 2) (v := .string t.f2) rfl
  have t3 := (unhide T1).at (o := 3) (v := .int .i64 t.f3) rfl
  have t4 := (unhide T1).at (o := 4) (v := .int .i64 t.f4) rfl
  have t5 := (unhide T1).at (o := 5) (v := .string t.f5) rfl
  have t6 := (unhide T1).at (o := 6) (v := .string t.f6) rfl
  have zt := (unhide T1).lt
  by_cases hemp : t.f2 = empB
  · have d2 : t.f2.toList.isEmpty = true := by rw [hemp]; exact isEmp
    have hSB := unhide HR
    rw [if_pos hemp] at hSB
    clear hemp HR q1
    obtain ⟨B, okB⟩ := SB
    simp only [tAtom, Prod.mk.injEq] at hSB
    obtain ⟨hB, rfl⟩ := hSB
    have HB' := hide hB.symm
    have e3 : B.x = t.f3 := by rw [hB]
    have e4 : B.n = t.f4 := by rw [hB]
    have e5 : B.t = t.f5 := by rw [hB]
    have e6 : B.y = t.f6 := by rw [hB]
    rw [← e3] at t3
    rw [← e4] at t4
    rw [← e5] at t5
    rw [← e6] at t6
    clear hB e3 e4 e5 e6 HB'
    have B3 := hide (bAl (bAl (unhide B1) (.cells #[.int .i64 A.x, .int .i64 A.n, .string A.t, .string A.y] 40)) (.cells #[.int .i64 B.x, .int .i64 B.n, .string B.t, .string B.y] 40))
    have HT2 := unhide HT
    cases okA
    · have E : Hid (RES = 2) := hide (by rw [HT2]; rfl)
      clear HT2 HT
      go_wp2_with fail
      go_ret
      exact ⟨ret_int (unhide E).symm, unhide B3⟩
    · have HT3 : RES = said (opH t.f1 A B) := by rw [HT2]; rfl
      have qc := hide (fun w => sCompare_any A.x A.n A.t A.y B.x B.n B.t B.y w (unhide oA).n9 (unhide oA).t9 (unhide oA).y9 (unhide oB).n9 (unhide oB).t9 (unhide oB).y9)
      have qa := hide (fun w => sAddrIn_any A.x A.n A.t A.y B.x B.n B.t B.y w (unhide oA).n9 (unhide oA).t9 (unhide oA).y9 (unhide oB).n9 (unhide oB).t9 (unhide oB).y9)
      unfold opH at HT3
      clear HT2 HT
      generalize cmpG A.x A.n A.t A.y B.x B.n B.t B.y = C at *
      generalize addrInB A.x A.n A.t A.y B.x B.n B.t B.y = D at *
      generalize t.f1 = O at *
      rcases (by omega : O = 1 ∨ O = 2 ∨ O = 3 ∨ (O ≠ 1 ∧ O ≠ 2 ∧ O ≠ 3)) with rfl | rfl | rfl | ⟨o1, o2, o3⟩
      · have E := hide HT3
        clear HT3
        go_wp2_with (first
          | (go_at_call 46; refine (unhide qc _).mono ?_; rintro e w4 ⟨rfl, hb4⟩; have B4 := hide (bTr (unhide B3) hb4); clear hb4)
          | (go_at_call 45; refine (l3Said_any _ _).mono ?_; rintro e w5 ⟨rfl, rfl⟩))
        go_ret
        exact ⟨ret_int (by rw [unhide E]; rfl), unhide B4⟩
      · have E := hide HT3
        clear HT3
        go_wp2_with (first
          | (go_at_call 46; refine (unhide qc _).mono ?_; rintro e w4 ⟨rfl, hb4⟩; have B4 := hide (bTr (unhide B3) hb4); clear hb4)
          | (go_at_call 45; refine (l3Said_any _ _).mono ?_; rintro e w5 ⟨rfl, rfl⟩))
        go_ret
        exact ⟨ret_int (by rw [unhide E]; rfl), unhide B4⟩
      · have E := hide HT3
        clear HT3
        by_cases hC : C = -1
        · subst hC
          go_wp2_with (first
            | (go_at_call 46; refine (unhide qc _).mono ?_; rintro e w4 ⟨rfl, hb4⟩; have B4 := hide (bTr (unhide B3) hb4); clear hb4)
            | (go_at_call 45; refine (l3Said_any _ _).mono ?_; rintro e w5 ⟨rfl, rfl⟩))
          go_ret
          exact ⟨ret_int (by rw [unhide E]; rfl), unhide B4⟩
        · have hc1 : (C == -1) = false := by simpa using hC
          go_wp2_with (first
            | (go_at_call 46; refine (unhide qc _).mono ?_; rintro e w4 ⟨rfl, hb4⟩; have B4 := hide (bTr (unhide B3) hb4); clear hb4)
            | (go_at_call 45; refine (l3Said_any _ _).mono ?_; rintro e w5 ⟨rfl, rfl⟩))
          go_ret
          exact ⟨ret_int (by rw [unhide E, hc1]; simp), unhide B4⟩
      · have E : Hid (RES = said D) := hide (by rw [HT3, if_neg o1, if_neg o2, if_neg o3])
        clear HT3
        go_wp2_with (first
          | (go_at_call 47; refine (unhide qa _).mono ?_; rintro e w4 ⟨rfl, hb4⟩; have B4 := hide (bTr (unhide B3) hb4); clear hb4)
          | (go_at_call 45; refine (l3Said_any _ _).mono ?_; rintro e w5 ⟨rfl, rfl⟩))
        go_ret
        exact ⟨ret_int (unhide E).symm, unhide B4⟩
  · have d2 := notEmp hemp
    have hSB := unhide HR
    rw [if_neg hemp] at hSB
    obtain ⟨W1, hW1⟩ : ∃ W, W = w1.alloc (.cells #[.int .i64 A.x, .int .i64 A.n, .string A.t, .string A.y] 40) := ⟨_, rfl⟩
    obtain ⟨W2, hW2⟩ : ∃ W, W = W1.alloc (.cells #[.int .i64 t.f3, .int .i64 t.f4, .string t.f5, .string t.f6] 40) := ⟨_, rfl⟩
    have z1 : W1.heap.size = w1.heap.size + 1 := by rw [hW1]; simp
    have b1 : Below w1.heap.size w1 W1 := by rw [hW1]; exact bAl (Below.refl _ _) _
    have b2 : Below W1.heap.size W1 W2 := by rw [hW2]; exact bAl (Below.refl _ _) _
    have A2 := hide ((show RowIs W1 w1.heap.size #[.int .i64 A.x, .int .i64 A.n, .string A.t, .string A.y] 40 by rw [hW1]; exact RowIs.new _ _ _).keep b2)
    have C2 := hide (show RowIs W2 (w1.heap.size + 1) #[.int .i64 t.f3, .int .i64 t.f4, .string t.f5, .string t.f6] 40 by rw [hW2, ← z1]; exact RowIs.new _ _ _)
    have T2 := hide (((unhide T1).keep b1).keep b2)
    have B2 := hide (bTr (bTr (unhide B1) b1) b2)
    have v0 := (unhide V1).at (o := 0) (v := .int .i64 v.k) rfl
    have v1 := (unhide V1).at (o := 1) (v := .int .i64 v.a.x) rfl
    have v2 := (unhide V1).at (o := 2) (v := .int .i64 v.a.n) rfl
    have v3 := (unhide V1).at (o := 3) (v := .string v.a.t) rfl
    have v4 := (unhide V1).at (o := 4) (v := .string v.a.y) rfl
    have v5 := (unhide V1).at (o := 5) (v := .slice a1 l1 c1) rfl
    have v6 := (unhide V1).at (o := 6) (v := .slice a2 l2 c2) rfl
    have zv := (unhide V1).lt
    have HW2 := hide (show (w1.alloc (.cells #[.int .i64 A.x, .int .i64 A.n, .string A.t, .string A.y] 40)).alloc (.cells #[.int .i64 t.f3, .int .i64 t.f4, .string t.f5, .string t.f6] 40) = W2 by rw [hW2, hW1])
    clear hemp HR hW1 hW2 z1 b1 b2
    go_wp2_with fail
    rw [unhide HW2]
    refine (unhide q1 _ _ ((unhide HS).keep (unhide B2)) ((unhide HS1).keep (unhide B2)) ((unhide HS2).keep (unhide B2))).mono ?_
    rintro e w2 ⟨rfl, hb2⟩
    rw [← hSB]
    have A3 := (unhide A2).keep hb2
    have C3 := hide ((unhide C2).keep hb2)
    have T3 := (unhide T2).keep hb2
    have B2' := hide (bTr (unhide B2) hb2)
    clear hb2 t1 t2 t3 t4 t5 t6 zt v0 v1 v2 v3 v4 v5 v6 zv HW2 A2 C2 T2 B2 B1 T1 V1 q1 hSB d2
    obtain ⟨B, okB⟩ := SB
    simp only at oB ⊢
    have t1 := T3.at (o := 1) (v := .int .i64 t.f1) rfl
    have x0 := A3.at (o := 0) (v := .int .i64 A.x) rfl
    have x1 := A3.at (o := 1) (v := .int .i64 A.n) rfl
    have x2 := A3.at (o := 2) (v := .string A.t) rfl
    have x3 := A3.at (o := 3) (v := .string A.y) rfl
    have y0 := (unhide C3).at (o := 0) (v := .int .i64 t.f3) rfl
    have y1 := (unhide C3).at (o := 1) (v := .int .i64 t.f4) rfl
    have y2 := (unhide C3).at (o := 2) (v := .string t.f5) rfl
    have y3 := (unhide C3).at (o := 3) (v := .string t.f6) rfl
    have f0 := (unhide C3).froz 0
    have f1 := (unhide C3).froz 1
    have f2 := (unhide C3).froz 2
    have f3 := (unhide C3).froz 3
    have zt := T3.lt
    have za := A3.lt
    have zc := (unhide C3).lt
    have n1 : w.heap.size ≠ w1.heap.size + 1 := by omega
    have n2 : w1.heap.size + 1 ≠ w.heap.size := by omega
    have n3 : w1.heap.size ≠ w1.heap.size + 1 := by omega
    have n4 : w1.heap.size + 1 ≠ w1.heap.size := by omega
    obtain ⟨W3, hW3⟩ : ∃ W, W = (((w2.setCell ⟨w1.heap.size + 1, 0, none⟩ (.int .i64 B.x)).setCell ⟨w1.heap.size + 1, 1, none⟩ (.int .i64 B.n)).setCell ⟨w1.heap.size + 1, 2, none⟩ (.string B.t)).setCell ⟨w1.heap.size + 1, 3, none⟩ (.string B.y) := ⟨_, rfl⟩
    have B3 := hide (show Below w.heap.size w ((((w2.setCell ⟨w1.heap.size + 1, 0, none⟩ (.int .i64 B.x)).setCell ⟨w1.heap.size + 1, 1, none⟩ (.int .i64 B.n)).setCell ⟨w1.heap.size + 1, 2, none⟩ (.string B.t)).setCell ⟨w1.heap.size + 1, 3, none⟩ (.string B.y)) from ((((unhide B2').setCell (by show w.heap.size ≤ w1.heap.size + 1; omega) _).setCell (by show w.heap.size ≤ w1.heap.size + 1; omega) _).setCell (by show w.heap.size ≤ w1.heap.size + 1; omega) _).setCell (by show w.heap.size ≤ w1.heap.size + 1; omega) _)
    clear A3 T3 hW3
    have HT2 := unhide HT
    cases okA
    · have E : Hid (RES = 2) := hide (by rw [HT2]; rfl)
      clear HT2 HT
      go_wp2_with fail
      go_ret
      exact ⟨ret_int (unhide E).symm, unhide B3⟩
    · cases okB
      · have E : Hid (RES = 2) := hide (by rw [HT2]; rfl)
        clear HT2 HT
        go_wp2_with fail
        go_ret
        exact ⟨ret_int (unhide E).symm, unhide B3⟩
      · have HT3 : RES = said (opH t.f1 A B) := by rw [HT2]; rfl
        have qc := hide (fun w => sCompare_any A.x A.n A.t A.y B.x B.n B.t B.y w (unhide oA).n9 (unhide oA).t9 (unhide oA).y9 (unhide oB).n9 (unhide oB).t9 (unhide oB).y9)
        have qa := hide (fun w => sAddrIn_any A.x A.n A.t A.y B.x B.n B.t B.y w (unhide oA).n9 (unhide oA).t9 (unhide oA).y9 (unhide oB).n9 (unhide oB).t9 (unhide oB).y9)
        unfold opH at HT3
        clear HT2 HT
        generalize cmpG A.x A.n A.t A.y B.x B.n B.t B.y = C at *
        generalize addrInB A.x A.n A.t A.y B.x B.n B.t B.y = D at *
        generalize t.f1 = O at *
        rcases (by omega : O = 1 ∨ O = 2 ∨ O = 3 ∨ (O ≠ 1 ∧ O ≠ 2 ∧ O ≠ 3)) with rfl | rfl | rfl | ⟨o1, o2, o3⟩
        · have E := hide HT3
          clear HT3
          go_wp2_with (first
            | (go_at_call 46; refine (unhide qc _).mono ?_; rintro e w4 ⟨rfl, hb4⟩; have B4 := hide (bTr (unhide B3) hb4); clear hb4)
            | (go_at_call 45; refine (l3Said_any _ _).mono ?_; rintro e w5 ⟨rfl, rfl⟩))
          go_ret
          exact ⟨ret_int (by rw [unhide E]; rfl), unhide B4⟩
        · have E := hide HT3
          clear HT3
          go_wp2_with (first
            | (go_at_call 46; refine (unhide qc _).mono ?_; rintro e w4 ⟨rfl, hb4⟩; have B4 := hide (bTr (unhide B3) hb4); clear hb4)
            | (go_at_call 45; refine (l3Said_any _ _).mono ?_; rintro e w5 ⟨rfl, rfl⟩))
          go_ret
          exact ⟨ret_int (by rw [unhide E]; rfl), unhide B4⟩
        · have E := hide HT3
          clear HT3
          by_cases hC : C = -1
          · subst hC
            go_wp2_with (first
              | (go_at_call 46; refine (unhide qc _).mono ?_; rintro e w4 ⟨rfl, hb4⟩; have B4 := hide (bTr (unhide B3) hb4); clear hb4)
              | (go_at_call 45; refine (l3Said_any _ _).mono ?_; rintro e w5 ⟨rfl, rfl⟩))
            go_ret
            exact ⟨ret_int (by rw [unhide E]; rfl), unhide B4⟩
          · have hc1 : (C == -1) = false := by simpa using hC
            go_wp2_with (first
              | (go_at_call 46; refine (unhide qc _).mono ?_; rintro e w4 ⟨rfl, hb4⟩; have B4 := hide (bTr (unhide B3) hb4); clear hb4)
              | (go_at_call 45; refine (l3Said_any _ _).mono ?_; rintro e w5 ⟨rfl, rfl⟩))
            go_ret
            exact ⟨ret_int (by rw [unhide E, hc1]; simp), unhide B4⟩
        · have E : Hid (RES = said D) := hide (by rw [HT3, if_neg o1, if_neg o2, if_neg o3])
          clear HT3
          go_wp2_with (first
            | (go_at_call 47; refine (unhide qa _).mono ?_; rintro e w4 ⟨rfl, hb4⟩; have B4 := hide (bTr (unhide B3) hb4); clear hb4)
            | (go_at_call 45; refine (l3Said_any _ _).mono ?_; rintro e w5 ⟨rfl, rfl⟩))
          go_ret
          exact ⟨ret_int (unhide E).symm, unhide B4⟩
end Go.Proofs.YtdflnjjomljgmaaGreatDoor.V
