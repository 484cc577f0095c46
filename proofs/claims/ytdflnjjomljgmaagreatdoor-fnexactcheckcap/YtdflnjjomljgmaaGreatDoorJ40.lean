/- RSie, RCon, one behind the other. -/
import Derived.Test.YtdflnjjomljgmaaGreatDoorJ39
/- impl.paramSide, CavTerm.rightSide. -/
namespace Go.Proofs.YtdflnjjomljgmaaGreatDoor.V
open Go.RowKit Go.Maps

set_option maxHeartbeats 400000 in
theorem indexPar_any (bn : Nat) (s : ByteArray) (a : Option Addr) (len cap : Nat) (l : List ParamT) (w : World) (hl : len ≤ 1048576) (hs : SlParam w a len l) (hc : w.cell? ⟨bn, 0, none⟩ = some (.string s)) :
    Calls Tryz.prog 123 #[.slice a len cap, .func (.func 124) #[] #[.pointer (some ⟨bn, 0, none⟩)]] w fun e w' => (∃ v : Int, e = .returned (.int .i64 v) ∧ FstN l s v) ∧ Below w.heap.size w w' := by
  have HS := hide hs
  have zb : bn < w.heap.size := World.block_lt_of_cell? w ⟨bn, 0, none⟩ hc
  have HC := hide (fun (w' : World) (h : Below w.heap.size w w') => cellB (w' := w') h zb hc)
  clear hs hc
  go_enter Tryz.func123, Tryz.ntmps123
  go_wp2_with fail
  go_loopw [8] (fun i w' => ∃ k : Nat, k ≤ len ∧ i = .int .i64 k ∧ Hid (Below w.heap.size w w') ∧ Hid (∀ i (hi : i < l.length), i < k → l[i].f0 ≠ s)) (fun i _ => len - (Go.RowKit.intOf i).toNat)
  case atStart => exact ⟨0, Nat.zero_le _, rfl, hide (Below.refl _ _), hide (fun i _ h => absurd h (Nat.not_lt_zero _))⟩
  case round =>
    obtain ⟨k, hk, rfl, hb, hN⟩ := hrel
    by_cases hlt : k < len
    · have hk' : k < l.length := by rw [← (unhide HS).1]; exact hlt
      obtain ⟨b1, off, rfl, hrow⟩ := ((unhide HS).keep (unhide hb)).at hlt
      have c0 := hrow.c0 k hk'
      have c1 := hrow.c1 k hk'
      have zk := hrow.z
      have q := hide (paramSide1_any l[k] bn s wr (unhide HC _ (unhide hb)))
      have eY : Hid (l[k].f0 = s → FstN l s k) := hide (fun e => .inl ⟨k, hk', rfl, findP_at hk' (unhide hN) e⟩)
      have eN : Hid (l[k].f0 ≠ s → ∀ i (hi : i < l.length), i < k + 1 → l[i].f0 ≠ s) := hide (fun e i hi h => by
        rcases Nat.lt_or_ge i k with h2 | h2
        · exact unhide hN i hi h2
        · obtain rfl : i = k := by omega
          exact e)
      clear hrow
      generalize l[k] = A at *
      go_wp2_with fail
      refine (unhide q).mono ?_
      rintro e w1 ⟨⟨v, rfl, hv⟩, hb1⟩
      have B1 := hide (bTr (unhide hb) hb1)
      have HV := hide hv
      clear hb1 q hv c0 c1
      cases v
      · have S := hide (unhide eN (fun h => by have := (unhide HV).2 h; cases this))
        clear eY eN HV
        go_wp2_with fail
        exact ⟨⟨k + 1, by omega, by go_num, B1, S⟩, by simp [Go.RowKit.intOf]; omega⟩
      · have Y := hide (unhide eY ((unhide HV).1 rfl))
        clear eY eN HV
        go_wp2_with fail
        go_ret
        exact ⟨⟨_, rfl, unhide Y⟩, unhide B1⟩
    · have S : Hid (FstN l s (-1)) := hide (.inr ⟨rfl, findP_none (fun i h => unhide hN i h (by have := (unhide HS).1; omega))⟩)
      go_wp2_with fail
      go_ret
      exact ⟨⟨_, rfl, unhide S⟩, unhide hb⟩

set_option maxRecDepth 20000 in
set_option maxHeartbeats 1000000 in
theorem paramSide_any (s : ByteArray) (a : Option Addr) (len cap : Nat) (l : List ParamT) (w : World) (hl : len ≤ 1048576) (hsz : s.size ≤ maxLen) (hs : SlParam w a len l) :
    Calls Tryz.prog 105 #[.string s, .slice a len cap] w fun e w' => (∃ v, e = .returned v ∧ SideV w.heap.size w' v (sdP l s)) ∧ Below w.heap.size w w' := by
  have HS := hide hs
  obtain ⟨W0, hW0⟩ : ∃ W, W = w.alloc (.cells #[.string s] 9) := ⟨_, rfl⟩
  have B0 := hide (show Below w.heap.size w W0 by rw [hW0]; exact bAl (Below.refl _ _) _)
  have R0 := hide (show RowIs W0 w.heap.size #[.string s] 9 by rw [hW0]; exact RowIs.new _ _ _)
  have q := hide (indexPar_any w.heap.size s a len cap l W0 hl (hs.keep (unhide B0)) ((unhide R0).at (o := 0) rfl))
  have HW0 := hide hW0.symm
  have hst := @run_store Tryz.prog
  have HZ := hide hsz
  clear hs hW0 hsz
  go_enter Tryz.func105, Tryz.ntmps105
  go_wp2_with fail
  rw [unhide HW0]
  refine (unhide q).mono ?_
  rintro e w1 ⟨⟨v, rfl, hv⟩, hb1⟩
  have B1 := hide (bTr (unhide B0) hb1)
  have R1 := hide ((unhide R0).keep hb1)
  clear hb1 q B0 R0 HW0
  rcases hv with ⟨k, hk, rfl, hf⟩ | ⟨rfl, hf⟩
  · have hk2 : k < len := by rw [(unhide HS).1]; exact hk
    obtain ⟨b, off, rfl, hrow⟩ := ((unhide HS).keep (unhide B1)).at hk2
    have c1 := hrow.c1 k hk
    have zk := hrow.z
    have HF := hide hf
    have i0 : (0 : Int) ≤ (k : Int) := by omega
    have i1 : (k : Int) < (len : Int) := by omega
    have i2 : decide ((k : Int) < 0) = false := decide_eq_false (by omega)
    clear hrow hf
    generalize l[k] = A at *
    have B2 := hide (bAl (unhide B1) (.cells #[.int .i64 A.f1] 3))
    have R2 := hide ((unhide R1).keep (bAl (Below.refl _ _) (.cells #[.int .i64 A.f1] 3)))
    have K2 := hide (RowIs.new w1 #[.int .i64 A.f1] 3)
    go_wp2_with fail
    go_ret
    refine ⟨⟨_, rfl, _, _, rfl, ent_of Tryz.func126 (by kernel_rfl) (by kernel_rfl), fun w' bm n g hb hm => ?_⟩, unhide B2⟩
    have r := ((unhide R2).keptR hb (Nat.le_refl _)).at (o := 0) (v := .string s) rfl
    have kk := ((unhide K2).keptR hb (unhide B1).size).at (o := 0) (v := .int .i64 A.f1) rfl
    have := paramSide3_any bm n w.heap.size w1.heap.size s A.f1 g w' (unhide HZ) hm r kk
    unfold sdP
    rw [unhide HF]
    exact this
  · have HF := hide hf
    clear hf
    go_wp2_with fail
    go_ret
    refine ⟨⟨_, rfl, _, _, rfl, ent_of Tryz.func125 (by kernel_rfl) (by kernel_rfl), fun w' bm n g hb hm => ?_⟩, unhide B1⟩
    have := paramSide2_any bm w'
    unfold sdP
    rw [unhide HF]
    exact this

set_option maxRecDepth 20000 in
set_option maxHeartbeats 1000000 in
theorem rightSide_any (t : CavTermT) (a : Option Addr) (len cap : Nat) (l : List ParamT) (w : World) (hl : len ≤ 1048576) (ht : t.Ok) (hs : SlParam w a len l) :
    Calls Tryz.prog 106 #[tAgg t, .slice a len cap] w fun e w' => (∃ v, e = .returned v ∧ SideV w.heap.size w' v (sdR l t)) ∧ Below w.heap.size w w' := by
  have HS := hide hs
  obtain ⟨W0, hW0⟩ : ∃ W, W = w.alloc (.cells #[.string t.f0, .int .i64 t.f1, .string t.f2, .int .i64 t.f3, .int .i64 t.f4, .string t.f5, .string t.f6] 58) := ⟨_, rfl⟩
  have B0 := hide (show Below w.heap.size w W0 by rw [hW0]; exact bAl (Below.refl _ _) _)
  have R0 := hide (show RowIs W0 w.heap.size #[.string t.f0, .int .i64 t.f1, .string t.f2, .int .i64 t.f3, .int .i64 t.f4, .string t.f5, .string t.f6] 58 by rw [hW0]; exact RowIs.new _ _ _)
  have q := hide (paramSide_any t.f2 a len cap l W0 hl ht.o2 (hs.keep (unhide B0)))
  have HW0 := hide hW0.symm
  have HR : Hid (∀ g, sdR l t g = if t.f2 = empB then (tAtom t, true) else sdP l t.f2 g) := hide (fun _ => rfl)
  clear hs hW0 ht
  by_cases he : t.f2 = empB
  · have d2 : t.f2.toList.isEmpty = true := by rw [he]; exact isEmp
    have HE := hide he
    clear he
    go_enter Tryz.func106, Tryz.ntmps106
    go_wp2_with fail
    rw [unhide HW0]
    go_ret
    refine ⟨⟨_, rfl, _, _, rfl, ent_of Tryz.func127 (by kernel_rfl) (by kernel_rfl), fun w' bm n g hb hm => ?_⟩, unhide B0⟩
    have := rightSide1_any t bm w.heap.size w' ((unhide R0).keptR hb (Nat.le_refl _))
    rw [unhide HR, if_pos (unhide HE)]
    exact this
  · have d2 := notEmp he
    have e : Hid (sdR l t = sdP l t.f2) := hide (funext fun g => by rw [unhide HR, if_neg he])
    clear he
    go_enter Tryz.func106, Tryz.ntmps106
    go_wp2_with fail
    rw [unhide HW0]
    refine (unhide q).mono ?_
    rintro e w1 ⟨⟨v, rfl, hv⟩, hb1⟩
    have HV := hide hv
    have B1 := hide (bTr (unhide B0) hb1)
    clear hv hb1 q
    go_wp2_with fail
    go_ret
    exact ⟨⟨_, rfl, by rw [unhide e]; exact (unhide HV).less (unhide B0).size⟩, unhide B1⟩
end Go.Proofs.YtdflnjjomljgmaaGreatDoor.V
/- impl.opHolds, yesOrNo, termCondition. -/
namespace Go.Proofs.YtdflnjjomljgmaaGreatDoor.V
open Go.RowKit Go.Maps

theorem yesOrNo_any (b : Bool) (w : World) : Calls Tryz.prog 108 #[.bool b] w fun e w' => e = .returned (.int .i64 (said b)) ∧ w = w' := by
  cases b
  all_goals go_enter Tryz.func108, Tryz.ntmps108
  all_goals go_wp2
  all_goals go_ret
  all_goals exact ⟨rfl, rfl⟩

set_option maxRecDepth 20000 in
set_option maxHeartbeats 1000000 in
theorem opHolds_any (O : Int) (A B : AtomT) (hA : A.Ok) (hB : B.Ok) (w : World) :
    Calls Tryz.prog 109 #[.int .i64 O, atomV A, atomV B] w fun e w' => e = .returned (.bool (opH O A B)) ∧ Below w.heap.size w w' := by
  have qc := hide (fun w => iCompare_any A.x A.n A.t A.y B.x B.n B.t B.y w hA.n9 hA.t9 hA.y9 hB.n9 hB.t9 hB.y9)
  have qa := hide (fun w => iAddrIn_any A.x A.n A.t A.y B.x B.n B.t B.y w hA.n9 hA.t9 hA.y9 hB.n9 hB.t9 hB.y9)
  have HT3 : opH O A B = (if O = 1 then cmpG A.x A.n A.t A.y B.x B.n B.t B.y == 0 else if O = 2 then cmpG A.x A.n A.t A.y B.x B.n B.t B.y == -1
  else if O = 3 then (cmpG A.x A.n A.t A.y B.x B.n B.t B.y == -1 || cmpG A.x A.n A.t A.y B.x B.n B.t B.y == 0) else addrInB A.x A.n A.t A.y B.x B.n B.t B.y) := rfl
  generalize opH O A B = RES at *
  generalize cmpG A.x A.n A.t A.y B.x B.n B.t B.y = C at *
  generalize addrInB A.x A.n A.t A.y B.x B.n B.t B.y = D at *
  have AB := #[Value.int .i64 A.x, .int .i64 A.n, .string A.t, .string A.y]
  clear hA hB AB
  obtain ⟨W1, hW1⟩ : ∃ W, W = w.alloc (.cells #[.int .i64 A.x, .int .i64 A.n, .string A.t, .string A.y] 40) := ⟨_, rfl⟩
  obtain ⟨W2, hW2⟩ : ∃ W, W = W1.alloc (.cells #[.int .i64 B.x, .int .i64 B.n, .string B.t, .string B.y] 40) := ⟨_, rfl⟩
  have z1 : W1.heap.size = w.heap.size + 1 := by rw [hW1]; simp
  have b1 : Below w.heap.size w W1 := by rw [hW1]; exact bAl (Below.refl _ _) _
  have b2 : Below W1.heap.size W1 W2 := by rw [hW2]; exact bAl (Below.refl _ _) _
  have A2 := hide ((show RowIs W1 w.heap.size #[.int .i64 A.x, .int .i64 A.n, .string A.t, .string A.y] 40 by rw [hW1]; exact RowIs.new _ _ _).keep b2)
  have C2 := hide (show RowIs W2 (w.heap.size + 1) #[.int .i64 B.x, .int .i64 B.n, .string B.t, .string B.y] 40 by rw [hW2, ← z1]; exact RowIs.new _ _ _)
  have B2 := hide (bTr b1 b2)
  have HW2 := hide (show (w.alloc (.cells #[.int .i64 A.x, .int .i64 A.n, .string A.t, .string A.y] 40)).alloc (.cells #[.int .i64 B.x, .int .i64 B.n, .string B.t, .string B.y] 40) = W2 by rw [hW2, hW1])
  clear hW1 hW2 z1 b1 b2
  go_enter Tryz.func109, Tryz.ntmps109
  go_wp2_with fail
  rw [unhide HW2]
  refine (unhide qc _).mono ?_
  rintro e w3 ⟨rfl, hb3⟩
  have A3 := (unhide A2).keep hb3
  have C3 := (unhide C2).keep hb3
  have B3 := hide (bTr (unhide B2) hb3)
  have x0 := A3.at (o := 0) (v := .int .i64 A.x) rfl
  have x1 := A3.at (o := 1) (v := .int .i64 A.n) rfl
  have x2 := A3.at (o := 2) (v := .string A.t) rfl
  have x3 := A3.at (o := 3) (v := .string A.y) rfl
  have y0 := C3.at (o := 0) (v := .int .i64 B.x) rfl
  have y1 := C3.at (o := 1) (v := .int .i64 B.n) rfl
  have y2 := C3.at (o := 2) (v := .string B.t) rfl
  have y3 := C3.at (o := 3) (v := .string B.y) rfl
  clear hb3 A2 C2 B2 HW2 qc A3 C3
  rcases (by omega : O = 1 ∨ O = 2 ∨ O = 3 ∨ (O ≠ 1 ∧ O ≠ 2 ∧ O ≠ 3)) with rfl | rfl | rfl | ⟨o1, o2, o3⟩
  · have E := hide HT3
    clear HT3
    go_wp2_with fail
    go_ret
    exact ⟨ret_bool (by rw [unhide E]; rfl), unhide B3⟩
  · have E := hide HT3
    clear HT3
    go_wp2_with fail
    go_ret
    exact ⟨ret_bool (by rw [unhide E]; rfl), unhide B3⟩
  · have E := hide HT3
    clear HT3
    by_cases hC : C = -1
    · subst hC
      go_wp2_with fail
      go_ret
      exact ⟨ret_bool (by rw [unhide E]; rfl), unhide B3⟩
    · have hc1 : (C == -1) = false := by simpa using hC
      go_wp2_with fail
      go_ret
      exact ⟨ret_bool (by rw [unhide E, hc1]; simp), unhide B3⟩
  · have E : Hid (RES = D) := hide (by rw [HT3, if_neg o1, if_neg o2, if_neg o3])
    clear HT3
    go_wp2_with fail
    refine (unhide qa _).mono ?_
    rintro e w4 ⟨rfl, hb4⟩
    have B4 := hide (bTr (unhide B3) hb4)
    clear hb4
    go_wp2_with fail
    go_ret
    exact ⟨ret_bool (unhide E).symm, unhide B4⟩

/-- A function value that tells a condition: it hangs on nothing below lo. -/
def CondV (lo : Nat) (w : World) (v : Value) (F : (ByteArray → Option AtomT) → Int) : Prop :=
  ∃ N caps, v = .func (.func N) #[] caps ∧ Ent N ∧ ∀ (w' : World) (b n : Nat) (g : ByteArray → Option AtomT), KeptR lo w.heap.size w w' → KMs w' b n (gM g) → (∀ s, ((g s).getD zA).Ok) →
    Calls Tryz.prog N (#[.map (some b)] ++ caps) w' fun e w'' => e = .returned (.int .i64 (F g)) ∧ Below w'.heap.size w' w''
theorem CondV.keep {lo : Nat} {w w1 : World} {v : Value} {F : (ByteArray → Option AtomT) → Int} (h : CondV lo w v F) (hb : KeptR lo w.heap.size w w1) : CondV lo w1 v F := by
  obtain ⟨N, caps, e, en, q⟩ := h
  exact ⟨N, caps, e, en, fun w' b n g h1 h2 h3 => q w' b n g (hb.trans h1) h2 h3⟩
theorem sdP_ok {l : List ParamT} {s : ByteArray} {g : ByteArray → Option AtomT} (h : ∀ s, ((g s).getD zA).Ok) : (sdP l s g).1.Ok := by
  unfold sdP; split
  · exact zA_ok
  · exact h s
theorem sdR_ok {l : List ParamT} {t : CavTermT} {g : ByteArray → Option AtomT} (ht : t.Ok) (h : ∀ s, ((g s).getD zA).Ok) : (sdR l t g).1.Ok := by
  unfold sdR; split
  · exact ⟨ht.n8, ht.n9, ht.o5, ht.o6⟩
  · exact sdP_ok h

set_option maxRecDepth 20000 in
set_option maxHeartbeats 1000000 in
theorem termCond1_any (t : CavTermT) (bl br bt b n : Nat) (vl vr : Value) (F G : (ByteArray → Option AtomT) → AtomT × Bool) (g : ByteArray → Option AtomT) (w : World) (hm : KMs w b n (gM g))
    (hl : w.cell? ⟨bl, 0, none⟩ = some vl) (hr : w.cell? ⟨br, 0, none⟩ = some vr) (ht : RowIs w bt #[.string t.f0, .int .i64 t.f1, .string t.f2, .int .i64 t.f3, .int .i64 t.f4, .string t.f5, .string t.f6] 58) (lo lo' : Nat) (sl : SideV lo w vl F) (sr : SideV lo' w vr G) (oF : (F g).1.Ok) (oG : (G g).1.Ok) :
    Calls Tryz.prog 107 #[.map (some b), .pointer (some ⟨bl, 0, none⟩), .pointer (some ⟨br, 0, none⟩), .pointer (some ⟨bt, 0, none⟩)] w fun e w' => e = .returned (.int .i64 (tRes t.f1 (F g) (G g))) ∧ Below w.heap.size w w' := by
  obtain ⟨N1, cap1, rfl, en1, q1⟩ := sl
  obtain ⟨N2, cap2, rfl, en2, q2⟩ := sr
  have EN1 := hide en1
  have EN2 := hide en2
  have hzb := hm.lt
  have zl : bl < w.heap.size := World.block_lt_of_cell? w ⟨bl, 0, none⟩ hl
  have zr : br < w.heap.size := World.block_lt_of_cell? w ⟨br, 0, none⟩ hr
  have zt := ht.lt
  have HT := hide ht
  have Q1 := hide (q1 w b n g (KeptR.refl _ _) hm)
  have Q2 := hide (fun w' (h : Below w.heap.size w w') => q2 w' b n g (KeptR.below h) (hm.keepB h hzb))
  have HR := hide (fun (w' : World) (h : Below w.heap.size w w') => cellB (w' := w') h zr hr)
  clear hm q1 q2 ht hr en1 en2
  generalize F g = SA at *
  generalize G g = SB at *
  obtain ⟨A, okA⟩ := SA
  obtain ⟨B, okB⟩ := SB
  have oA : Hid A.Ok := hide oF
  have oB : Hid B.Ok := hide oG
  clear oF oG
  have HT2 : Hid (tRes t.f1 (A, okA) (B, okB) = if okA = true ∧ okB = true then said (opH t.f1 A B) else 2) := hide rfl
  generalize tRes t.f1 (A, okA) (B, okB) = RES at *
  go_enter Tryz.func107, Tryz.ntmps107
  go_wp2_with fail
  rw [unhide EN1, Oper.upon_enter]
  refine (unhide Q1).mono ?_
  rintro e w1 ⟨rfl, hb1⟩
  obtain ⟨W1, hW1⟩ : ∃ W, W = w1.alloc (.cells #[.int .i64 A.x, .int .i64 A.n, .string A.t, .string A.y] 40) := ⟨_, rfl⟩
  have b1 : Below w1.heap.size w1 W1 := by rw [hW1]; exact bAl (Below.refl _ _) _
  have A1 := hide (show RowIs W1 w1.heap.size #[.int .i64 A.x, .int .i64 A.n, .string A.t, .string A.y] 40 by rw [hW1]; exact RowIs.new _ _ _)
  have B1 := hide (bTr hb1 b1)
  have r1 := unhide HR _ hb1
  have zr1 := Nat.lt_of_lt_of_le zr hb1.size
  have HW1 := hide hW1.symm
  clear hb1 b1 hW1 Q1 hl
  go_wp2_with fail
  rw [unhide HW1]
  rw [unhide EN2, Oper.upon_enter]
  refine (unhide Q2 _ (unhide B1)).mono ?_
  rintro e w2 ⟨rfl, hb2⟩
  obtain ⟨W2, hW2⟩ : ∃ W, W = w2.alloc (.cells #[.int .i64 B.x, .int .i64 B.n, .string B.t, .string B.y] 40) := ⟨_, rfl⟩
  have b2 : Below w2.heap.size w2 W2 := by rw [hW2]; exact bAl (Below.refl _ _) _
  have C2 := (show RowIs W2 w2.heap.size #[.int .i64 B.x, .int .i64 B.n, .string B.t, .string B.y] 40 by rw [hW2]; exact RowIs.new _ _ _)
  have A2 := (unhide A1).keep hb2
  have B2 := hide (bTr (bTr (unhide B1) hb2) b2)
  have HW2 := hide hW2.symm
  have T2 := (unhide HT).keep (bTr (unhide B1) hb2)
  have zt2 := T2.lt
  have za2 := A2.lt
  clear hb2 b2 hW2 Q2 A1 B1 HW1 r1 zr1
  have t1 := T2.at (o := 1) (v := .int .i64 t.f1) rfl
  cases okA
  · have E : Hid (RES = 2) := hide (by rw [unhide HT2]; rfl)
    clear HT2
    go_wp2_with fail
    rw [unhide HW2]
    go_ret
    exact ⟨ret_int (unhide E).symm, unhide B2⟩
  · cases okB
    · have E : Hid (RES = 2) := hide (by rw [unhide HT2]; rfl)
      clear HT2
      go_wp2_with fail
      rw [unhide HW2]
      go_ret
      exact ⟨ret_int (unhide E).symm, unhide B2⟩
    · have E : Hid (RES = said (opH t.f1 A B)) := hide (by rw [unhide HT2]; rfl)
      clear HT2
      have qo := hide (opHolds_any t.f1 A B (unhide oA) (unhide oB) W2)
      generalize opH t.f1 A B = Z at *
      have x0 := A2.at (o := 0) (v := .int .i64 A.x) rfl
      have x1 := A2.at (o := 1) (v := .int .i64 A.n) rfl
      have x2 := A2.at (o := 2) (v := .string A.t) rfl
      have x3 := A2.at (o := 3) (v := .string A.y) rfl
      clear A2 C2 T2
      go_wp2_with fail
      rw [unhide HW2]
      refine (unhide qo).mono ?_
      rintro e w3 ⟨rfl, hb3⟩
      have B3 := hide (bTr (unhide B2) hb3)
      clear hb3 qo
      go_wp2_with (go_at_call 108; refine (yesOrNo_any _ _).mono ?_; rintro e w5 ⟨rfl, rfl⟩)
      go_ret
      exact ⟨ret_int (unhide E).symm, unhide B3⟩

end Go.Proofs.YtdflnjjomljgmaaGreatDoor.V
