/- impl.paramSide, CavTerm.rightSide. -/
import Derived.Test.YtmkgehcfdcoliaaGreatRSid
namespace Go.Proofs.YtmkgehcfdcoliaaGreat.V
open Go.RowKit Go.Maps

set_option maxHeartbeats 400000 in
theorem indexPar_any (bn : Nat) (s : ByteArray) (a : Option Addr) (len cap : Nat) (l : List ParamT) (w : World) (hl : len ≤ 1048576) (hs : SlParam w a len l) (hc : w.cell? ⟨bn, 0, none⟩ = some (.string s)) :
    Calls Tryz.prog 98 #[.slice a len cap, .func (.func 99) #[] #[.pointer (some ⟨bn, 0, none⟩)]] w fun e w' => (∃ v : Int, e = .returned (.int .i64 v) ∧ FstN l s v) ∧ Below w.heap.size w w' := by
  have HS := hide hs
  have zb : bn < w.heap.size := World.block_lt_of_cell? w ⟨bn, 0, none⟩ hc
  have HC := hide (fun (w' : World) (h : Below w.heap.size w w') => cellB (w' := w') h zb hc)
  clear hs hc
  go_enter Tryz.func98, Tryz.ntmps98
  go_wp2_with fail
  go_loopw [8] (fun i w' => ∃ k : Nat, k ≤ len ∧ i = .int .i64 k ∧ Hid (Below w.heap.size w w') ∧ Hid (∀ i (hi : i < l.length), i < k → l[i].f0 ≠ s)) (fun i _ => len - (Go.RowKit.intOf i).toNat)
  case atStart => exact ⟨0, Nat.zero_le _, rfl, hide (Below.refl _ _), hide (fun i _ h => absurd h (Nat.not_lt_zero _))⟩
  case round =>
    obtain ⟨k, hk, rfl, hb, hN⟩ := hrel
    by_cases hlt : k < len
    · have hk' : k < l.length := by rw [← (unhide HS).1]; exact hlt
      obtain ⟨b1, off, rfl, hrow⟩ := ((unhide HS).keep (unhide hb)).at hlt
      have c0 := hrow.c0 k hk'
      have c1 := hrow.c1 k hk'
      have zk := hrow.z
      have q := hide (paramSide1_any l[k] bn s wr (unhide HC _ (unhide hb)))
      have eY : Hid (l[k].f0 = s → FstN l s k) := hide (fun e => .inl ⟨k, hk', rfl, findP_at hk' (unhide hN) e⟩)
      have eN : Hid (l[k].f0 ≠ s → ∀ i (hi : i < l.length), i < k + 1 → l[i].f0 ≠ s) := hide (fun e i hi h => by
        rcases Nat.lt_or_ge i k with h2 | h2
        · exact unhide hN i hi h2
        · obtain rfl : i = k := by omega
          exact e)
      clear hrow
      generalize l[k] = A at *
      go_wp2_with fail
      refine (unhide q).mono ?_
      rintro e w1 ⟨⟨v, rfl, hv⟩, hb1⟩
      have B1 := hide (bTr (unhide hb) hb1)
      have HV := hide hv
      clear hb1 q hv c0 c1
      cases v
      · have S := hide (unhide eN (fun h => by have := (unhide HV).2 h; cases this))
        clear eY eN HV
        go_wp2_with fail
        exact ⟨⟨k + 1, by omega, by go_num, B1, S⟩, by simp [Go.RowKit.intOf]; omega⟩
      · have Y := hide (unhide eY ((unhide HV).1 rfl))
        clear eY eN HV
        go_wp2_with fail
        go_ret
        exact ⟨⟨_, rfl, unhide Y⟩, unhide B1⟩
    · have S : Hid (FstN l s (-1)) := hide (.inr ⟨rfl, findP_none (fun i h => unhide hN i h (by have := (unhide HS).1; omega))⟩)
      go_wp2_with fail
      go_ret
      exact ⟨⟨_, rfl, unhide S⟩, unhide hb⟩

set_option maxRecDepth 20000 in
set_option maxHeartbeats 1000000 in
theorem paramSide_any (s : ByteArray) (a : Option Addr) (len cap : Nat) (l : List ParamT) (w : World) (hl : len ≤ 1048576) (hsz : s.size ≤ maxLen) (hs : SlParam w a len l) :
    Calls Tryz.prog 76 #[.string s, .slice a len cap] w fun e w' => (∃ v, e = .returned v ∧ SideV w.heap.size w' v (sdP l s)) ∧ Below w.heap.size w w' := by
  have HS := hide hs
  obtain ⟨W0, hW0⟩ : ∃ W, W = w.alloc (.cells #[.string s] 9) := ⟨_, rfl⟩
  have B0 := hide (show Below w.heap.size w W0 by rw [hW0]; exact bAl (Below.refl _ _) _)
  have R0 := hide (show RowIs W0 w.heap.size #[.string s] 9 by rw [hW0]; exact RowIs.new _ _ _)
  have q := hide (indexPar_any w.heap.size s a len cap l W0 hl (hs.keep (unhide B0)) ((unhide R0).at (o := 0) rfl))
  have HW0 := hide hW0.symm
  have hst := @run_store Tryz.prog
  have HZ := hide hsz
  clear hs hW0 hsz
  go_enter Tryz.func76, Tryz.ntmps76
  go_wp2_with fail
  rw [unhide HW0]
  refine (unhide q).mono ?_
  rintro e w1 ⟨⟨v, rfl, hv⟩, hb1⟩
  have B1 := hide (bTr (unhide B0) hb1)
  have R1 := hide ((unhide R0).keep hb1)
  clear hb1 q B0 R0 HW0
  rcases hv with ⟨k, hk, rfl, hf⟩ | ⟨rfl, hf⟩
  · have hk2 : k < len := by rw [(unhide HS).1]; exact hk
    obtain ⟨b, off, rfl, hrow⟩ := ((unhide HS).keep (unhide B1)).at hk2
    have c1 := hrow.c1 k hk
    have zk := hrow.z
    have HF := hide hf
    have i0 : (0 : Int) ≤ (k : Int) := by omega
    have i1 : (k : Int) < (len : Int) := by omega
    have i2 : decide ((k : Int) < 0) = false := decide_eq_false (by omega)
    clear hrow hf
    generalize l[k] = A at *
    have B2 := hide (bAl (unhide B1) (.cells #[.int .i64 A.f1] 3))
    have R2 := hide ((unhide R1).keep (bAl (Below.refl _ _) (.cells #[.int .i64 A.f1] 3)))
    have K2 := hide (RowIs.new w1 #[.int .i64 A.f1] 3)
    go_wp2_with fail
    go_ret
    refine ⟨⟨_, rfl, _, _, rfl, ent_of Tryz.func101 (by kernel_rfl) (by kernel_rfl), fun w' bm n g hb hm => ?_⟩, unhide B2⟩
    have r := ((unhide R2).keptR hb (Nat.le_refl _)).at (o := 0) (v := .string s) rfl
    have kk := ((unhide K2).keptR hb (unhide B1).size).at (o := 0) (v := .int .i64 A.f1) rfl
    have := paramSide3_any bm n w.heap.size w1.heap.size s A.f1 g w' (unhide HZ) hm r kk
    unfold sdP
    rw [unhide HF]
    exact this
  · have HF := hide hf
    clear hf
    go_wp2_with fail
    go_ret
    refine ⟨⟨_, rfl, _, _, rfl, ent_of Tryz.func100 (by kernel_rfl) (by kernel_rfl), fun w' bm n g hb hm => ?_⟩, unhide B1⟩
    have := paramSide2_any bm w'
    unfold sdP
    rw [unhide HF]
    exact this

set_option maxRecDepth 20000 in
set_option maxHeartbeats 1000000 in
theorem rightSide_any (t : CavTermT) (a : Option Addr) (len cap : Nat) (l : List ParamT) (w : World) (hl : len ≤ 1048576) (ht : t.Ok) (hs : SlParam w a len l) :
    Calls Tryz.prog 77 #[tAgg t, .slice a len cap] w fun e w' => (∃ v, e = .returned v ∧ SideV w.heap.size w' v (sdR l t)) ∧ Below w.heap.size w w' := by
  have HS := hide hs
  obtain ⟨W0, hW0⟩ : ∃ W, W = w.alloc (.cells #[.string t.f0, .int .i64 t.f1, .string t.f2, .int .i64 t.f3, .int .i64 t.f4, .string t.f5, .string t.f6] 81) := ⟨_, rfl⟩
  have B0 := hide (show Below w.heap.size w W0 by rw [hW0]; exact bAl (Below.refl _ _) _)
  have R0 := hide (show RowIs W0 w.heap.size #[.string t.f0, .int .i64 t.f1, .string t.f2, .int .i64 t.f3, .int .i64 t.f4, .string t.f5, .string t.f6] 81 by rw [hW0]; exact RowIs.new _ _ _)
  have q := hide (paramSide_any t.f2 a len cap l W0 hl ht.o2 (hs.keep (unhide B0)))
  have HW0 := hide hW0.symm
  have HR : Hid (∀ g, sdR l t g = if t.f2 = empB then (tAtom t, true) else sdP l t.f2 g) := hide (fun _ => rfl)
  clear hs hW0 ht
  by_cases he : t.f2 = empB
  · have d2 : t.f2.toList.isEmpty = true := by rw [he]; exact isEmp
    have HE := hide he
    clear he
    go_enter Tryz.func77, Tryz.ntmps77
    go_wp2_with fail
    rw [unhide HW0]
    go_ret
    refine ⟨⟨_, rfl, _, _, rfl, ent_of Tryz.func102 (by kernel_rfl) (by kernel_rfl), fun w' bm n g hb hm => ?_⟩, unhide B0⟩
    have := rightSide1_any t bm w.heap.size w' ((unhide R0).keptR hb (Nat.le_refl _))
    rw [unhide HR, if_pos (unhide HE)]
    exact this
  · have d2 := notEmp he
    have e : Hid (sdR l t = sdP l t.f2) := hide (funext fun g => by rw [unhide HR, if_neg he])
    clear he
    go_enter Tryz.func77, Tryz.ntmps77
    go_wp2_with fail
    rw [unhide HW0]
    refine (unhide q).mono ?_
    rintro e w1 ⟨⟨v, rfl, hv⟩, hb1⟩
    have HV := hide hv
    have B1 := hide (bTr (unhide B0) hb1)
    clear hv hb1 q
    go_wp2_with fail
    go_ret
    exact ⟨⟨_, rfl, by rw [unhide e]; exact (unhide HV).less (unhide B0).size⟩, unhide B1⟩
end Go.Proofs.YtmkgehcfdcoliaaGreat.V
