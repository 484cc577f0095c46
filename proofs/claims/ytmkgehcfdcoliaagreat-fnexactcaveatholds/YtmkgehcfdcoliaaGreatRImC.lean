/- goodList at terms; impl.GoodCaveat. -/
import Derived.Test.YtmkgehcfdcoliaaGreatRImT
import Derived.Test.YtmkgehcfdcoliaaGreatRImR
namespace Go.Proofs.YtmkgehcfdcoliaaGreat.V
open Go.RowKit Go.Maps

set_option maxHeartbeats 400000 in
theorem notGood_CavTerm (bk : Nat) (P : CavTermT → Prop) (b : Nat) (x : CavTermT) (w : World) (hc : w.cell? ⟨b, 0, none⟩ = some (.func (.func 47) #[] #[.pointer (some ⟨bk,  0,  none⟩)]))
    (q : ∀ w' : World, Below w.heap.size w w' → Calls Tryz.prog 47 #[.agg #[.string x.f0, .int .i64 x.f1, .string x.f2, .int .i64 x.f3, .int .i64 x.f4, .string x.f5, .string x.f6], .pointer (some ⟨bk,  0,  none⟩)] w' fun e w'' => RetB e (P x) ∧ Below w'.heap.size w' w'') :
    Calls Tryz.prog 73 #[.agg #[.string x.f0, .int .i64 x.f1, .string x.f2, .int .i64 x.f3, .int .i64 x.f4, .string x.f5, .string x.f6], .pointer (some ⟨b, 0, none⟩)] w fun e w' => RetB e (¬ P x) ∧ Below w.heap.size w w' := by
  have HB := hide (bAl (Below.refl w.heap.size w) (.cells #[.string x.f0, .int .i64 x.f1, .string x.f2, .int .i64 x.f3, .int .i64 x.f4, .string x.f5, .string x.f6] 81))
  have zb : b < w.heap.size := World.block_lt_of_cell? w ⟨b, 0, none⟩ hc
  have Q := hide (q _ (unhide HB))
  clear q
  go_enter Tryz.func73, Tryz.ntmps73
  go_wp2_with fail
  refine (unhide Q).mono ?_
  rintro e w1 ⟨⟨v, rfl, hv⟩, hb⟩
  have B1 := hide (bTr (unhide HB) hb)
  have HV := hide hv
  clear hb HB Q hc hv
  go_wp2_with fail
  go_ret
  refine ⟨retB (b := !v) ?_, unhide B1⟩
  rw [← unhide HV]; cases v <;> simp
def AllCavTerm (P : CavTermT → Prop) (l : List CavTermT) (k : Nat) : Prop := ∀ i (h : i < l.length), i < k → P l[i]
theorem AllCavTerm.step {P : CavTermT → Prop} {l : List CavTermT} {k : Nat} (h : AllCavTerm P l k) (hk : k < l.length) (g : P l[k]) : AllCavTerm P l (k + 1) := by
  intro i hi h1
  rcases Nat.lt_or_ge i k with h2 | h2
  · exact h i hi h2
  · obtain rfl : i = k := by omega
    exact g

set_option maxHeartbeats 400000 in
theorem indexBad_CavTerm (bk : Nat) (P : CavTermT → Prop) (b : Nat) (a : Option Addr) (len cap : Nat) (l : List CavTermT) (w : World) (hl : len ≤ 1000) (hs : SlCavTerm w a len l) (hc : w.cell? ⟨b, 0, none⟩ = some (.func (.func 47) #[] #[.pointer (some ⟨bk,  0,  none⟩)]))
    (q : ∀ x ∈ l, ∀ w' : World, Below w.heap.size w w' → Calls Tryz.prog 47 #[.agg #[.string x.f0, .int .i64 x.f1, .string x.f2, .int .i64 x.f3, .int .i64 x.f4, .string x.f5, .string x.f6], .pointer (some ⟨bk,  0,  none⟩)] w' fun e w'' => RetB e (P x) ∧ Below w'.heap.size w' w'') :
    Calls Tryz.prog 97 #[.slice a len cap, .func (.func 73) #[] #[.pointer (some ⟨b, 0, none⟩)]] w fun e w' => (∃ v : Int, e = .returned (.int .i64 v) ∧ (0 ≤ v ↔ ¬ AllCavTerm P l l.length)) ∧ Below w.heap.size w w' := by
  have HS := hide hs
  have zb : b < w.heap.size := World.block_lt_of_cell? w ⟨b, 0, none⟩ hc
  have HC := hide (fun (w' : World) (h : Below w.heap.size w w') => cellB (w' := w') h zb hc)
  have HQ := hide q
  clear hs hc q
  go_enter Tryz.func97, Tryz.ntmps97
  go_wp2_with fail
  go_loopw [8] (fun i w' => ∃ k : Nat, k ≤ len ∧ i = .int .i64 k ∧ Hid (Below w.heap.size w w') ∧ Hid (AllCavTerm P l k)) (fun i _ => len - (Go.RowKit.intOf i).toNat)
  case atStart => exact ⟨0, Nat.zero_le _, rfl, hide (Below.refl _ _), hide (fun i _ h => absurd h (Nat.not_lt_zero _))⟩
  case round =>
    obtain ⟨k, hk, rfl, hb, hA⟩ := hrel
    by_cases hlt : k < len
    · have hk' : k < l.length := by rw [← (unhide HS).1]; exact hlt
      obtain ⟨b1, off, rfl, hrow⟩ := ((unhide HS).keep (unhide hb)).at hlt
      have c0 := hrow.c0 k hk'
      have c1 := hrow.c1 k hk'
      have c2 := hrow.c2 k hk'
      have c3 := hrow.c3 k hk'
      have c4 := hrow.c4 k hk'
      have c5 := hrow.c5 k hk'
      have c6 := hrow.c6 k hk'
      have zk := hrow.z
      have q := hide (notGood_CavTerm bk P b l[k] wr (unhide HC _ (unhide hb)) (fun w' h => unhide HQ _ (List.getElem_mem hk') w' (bTr (unhide hb) h)))
      have eS := hide (fun g : P l[k] => (unhide hA).step hk' g)
      have eN : Hid (¬ P l[k] → ¬ AllCavTerm P l l.length) := hide (fun g h => g (h k hk' hk'))
      clear hrow
      generalize l[k] = A at *
      go_wp2_with fail
      refine (unhide q).mono ?_
      rintro e w1 ⟨⟨v, rfl, hv⟩, hb1⟩
      have B1 := hide (bTr (unhide hb) hb1)
      have HV := hide hv
      clear hb1 q hv c0 c1 c2 c3 c4 c5 c6
      cases v
      · have S := hide (unhide eS (Classical.byContradiction fun h => by have := (unhide HV).2 h; cases this))
        clear eS eN HV
        go_wp2_with fail
        exact ⟨⟨k + 1, by omega, by go_num, B1, S⟩, by simp [Go.RowKit.intOf]; omega⟩
      · have N := hide (unhide eN ((unhide HV).1 rfl))
        clear eS eN HV
        go_wp2_with fail
        go_ret
        exact ⟨⟨_, rfl, fun _ => unhide N, fun _ => by omega⟩, unhide B1⟩
    · have S : Hid (AllCavTerm P l l.length) := hide (fun i h h1 => unhide hA i h (by have := (unhide HS).1; omega))
      go_wp2_with fail
      go_ret
      exact ⟨⟨_, rfl, fun h => absurd h (by decide), fun h => absurd (unhide S) h⟩, unhide hb⟩

set_option maxHeartbeats 400000 in
theorem goodList_CavTerm (bk : Nat) (P : CavTermT → Prop) (a : Option Addr) (len cap : Nat) (l : List CavTermT) (w : World) (hl : len ≤ maxLen) (hs : SlCavTerm w a len l)
    (q : ∀ x ∈ l, ∀ w' : World, Below w.heap.size w w' → Calls Tryz.prog 47 #[.agg #[.string x.f0, .int .i64 x.f1, .string x.f2, .int .i64 x.f3, .int .i64 x.f4, .string x.f5, .string x.f6], .pointer (some ⟨bk,  0,  none⟩)] w' fun e w'' => RetB e (P x) ∧ Below w'.heap.size w' w'') :
    Calls Tryz.prog 46 #[.slice a len cap, .int .i64 6, .func (.func 47) #[] #[.pointer (some ⟨bk,  0,  none⟩)]] w fun e w' => RetB e (len ≤ 6 ∧ AllCavTerm P l l.length) ∧ Below w.heap.size w w' := by
  unfold maxLen at hl
  have HS := hide hs
  have HQ := hide q
  clear hs q
  by_cases h200 : (len : Int) ≤ 6
  · obtain ⟨W, hW⟩ : ∃ W, W = w.alloc (.cells #[.func (.func 47) #[] #[.pointer (some ⟨bk,  0,  none⟩)]] 90) := ⟨_, rfl⟩
    have R := show RowIs W w.heap.size #[.func (.func 47) #[] #[.pointer (some ⟨bk,  0,  none⟩)]] 90 by rw [hW]; exact RowIs.new _ _ _
    have B := hide (show Below w.heap.size w W by rw [hW]; exact bAl (Below.refl _ _) _)
    have HW := hide hW.symm
    clear hW
    have q := hide (fun hc => indexBad_CavTerm bk P w.heap.size a len cap l W (by omega) ((unhide HS).keep (unhide B)) hc (fun x hx w' h => unhide HQ x hx w' (bTr (unhide B) h)))
    have q2 : Hid (Calls Tryz.prog 72 #[.slice a len cap, .func (.func 73) #[] #[.pointer (some ⟨w.heap.size, 0, none⟩)]] W fun e w' => (∃ v : Bool, e = .returned (.bool v) ∧ (v = true ↔ ¬ AllCavTerm P l l.length)) ∧ Below W.heap.size W w') := hide (by
      have q := hide (unhide q (R.at (o := 0) rfl))
      go_enter Tryz.func72, Tryz.ntmps72
      go_wp2_with fail
      refine (unhide q).mono ?_
      rintro e w1 ⟨⟨v, rfl, hv⟩, hb⟩
      have HV := hide hv
      clear hv
      go_wp2_with fail
      go_ret
      exact ⟨⟨decide (0 ≤ v), rfl, by rw [decide_eq_true_iff]; exact unhide HV⟩, hb⟩)
    have hst := @run_store Tryz.prog
    clear q R
    go_enter Tryz.func46, Tryz.ntmps46
    go_wp2_with fail
    rw [unhide HW]
    refine (unhide q2).mono ?_
    rintro e w1 ⟨⟨v, rfl, hv⟩, hb⟩
    have HV := hide hv
    have B1 := hide (bTr (unhide B) hb)
    clear hv hb q2 hst HW B
    go_wp2_with fail
    go_ret
    refine ⟨retB (b := !v) ⟨fun h => ?_, fun h => ?_⟩, unhide B1⟩
    · cases v
      · refine ⟨by omega, ?_⟩
        have := unhide HV
        exact Classical.byContradiction fun hn => by have := this.2 hn; cases this
      · cases h
    · cases v
      · rfl
      · exact absurd h.2 ((unhide HV).1 rfl)
  · have d : decide ((len : Int) ≤ 6) = false := by simpa using h200
    have B := hide (bAl (Below.refl w.heap.size w) (.cells #[.func (.func 47) #[] #[.pointer (some ⟨bk,  0,  none⟩)]] 90))
    have hst := @run_store Tryz.prog
    go_enter Tryz.func46, Tryz.ntmps46
    go_wp2_with fail
    go_ret
    exact ⟨retB (b := false) ⟨fun h => (by cases h), fun h => absurd h.1 (by omega)⟩, unhide B⟩


set_option maxHeartbeats 400000 in
theorem goodCaveat1_any (t : CavTermT) (bk b n : Nat) (l : List ParamT) (w : World) (ht : t.Ok) (hk : KMs w b n (kM l)) (hA : AllP l l.length) (hc : w.cell? ⟨bk, 0, none⟩ = some (.map (some b))) :
    Calls Tryz.prog 47 #[tAgg t, .pointer (some ⟨bk, 0, none⟩)] w fun e w' => RetB e (GTerm l t) ∧ Below w.heap.size w w' := by
  have B0 := hide (bAl (Below.refl w.heap.size w) (.cells #[.string t.f0, .int .i64 t.f1, .string t.f2, .int .i64 t.f3, .int .i64 t.f4, .string t.f5, .string t.f6] 81))
  have zb : bk < w.heap.size := World.block_lt_of_cell? w ⟨bk, 0, none⟩ hc
  have q := hide (goodTerm_any t b n l _ ht (hk.keepB (unhide B0) hk.lt) hA)
  clear hk hA ht
  go_enter Tryz.func47, Tryz.ntmps47
  go_wp2_with fail
  refine (unhide q).mono ?_
  rintro e w1 ⟨⟨v, rfl, hv⟩, hb⟩
  have HV := hide hv
  have B1 := hide (bTr (unhide B0) hb)
  clear hv hb q B0 hc
  go_wp2_with fail
  go_ret
  exact ⟨retB (unhide HV), unhide B1⟩

theorem rowGrown {w w' : World} {b : Nat} {C : Array Value} {T : TypeId} {row : Option Nat} (h : RowIs w b C T) (hg : w.grownBy w' row) (hne : some b ≠ row) : RowIs w' b C T := by
  have hl := h.lt
  unfold RowIs at *; rw [hg.block b hl hne]; exact h
theorem updK_kMap {l : List ParamT} {k : Nat} (hk : k < l.length) : updK (kMap (l.take k) fun _ => none) l[k].f0 (.int .i64 l[k].f1) = kMap (l.take (k + 1)) fun _ => none := by
  rw [List.take_succ_eq_append_getElem hk, kMap_snoc]

set_option maxRecDepth 20000 in
set_option maxHeartbeats 2000000 in
theorem iGoodCaveat_any (n : ByteArray) (l : List ParamT) (ts : List CavTermT) (a1 a2 : Option Addr) (l1 c1 l2 c2 : Nat) (w : World) (hn : n.size ≤ maxLen) (hl1 : l1 ≤ 1048576) (hl2 : l2 ≤ 1048576)
    (hs1 : SlParam w a1 l1 l) (hs2 : SlCavTerm w a2 l2 ts) (hok : ∀ q ∈ l, ParamT.Ok q) (hot : ∀ q ∈ ts, CavTermT.Ok q) :
    Calls Tryz.prog 26 #[.agg #[.string n, .slice a1 l1 c1, .slice a2 l2 c2]] w fun e w' => RetB e (GCav n l ts) ∧ Below w.heap.size w w' := by
  have HS1 := hide hs1
  have HS2 := hide hs2
  have HO := hide hok
  have HT := hide hot
  have q1 := hide (fun w => iGoodName_any n hn w)
  have q2 := hide (fun w hs => goodParams_any a1 l1 c1 l w (by unfold maxLen; omega) hs hok)
  have L1 := hide hs1.1
  have L2 := hide hs2.1
  have R0 := hide (RowIs.new w #[.string n, .slice a1 l1 c1, .slice a2 l2 c2] 38)
  have B0 := hide (bAl (Below.refl w.heap.size w) (.cells #[.string n, .slice a1 l1 c1, .slice a2 l2 c2] 38))
  clear hs1 hs2 hok hot
  have NO : Hid (∀ {W : World}, ¬ GCav n l ts → Below w.heap.size w W → RetB (.returned (.bool false)) (GCav n l ts) ∧ Below w.heap.size w W) := hide (fun h k => ⟨retB (b := false) ⟨fun h => (by cases h), fun h' => absurd h' h⟩, k⟩)
  have gN : Hid (GCav n l ts → goodName n = true) := hide (fun h => h.name)
  generalize hG : goodName n = G at *
  have HG := hide hG
  clear hG
  go_enter Tryz.func26, Tryz.ntmps26
  go_wp2_with fail
  refine (unhide q1 _).mono ?_
  rintro e w1 ⟨rfl, hb1⟩
  have R1 := hide ((unhide R0).keep hb1)
  have B1 := hide (bTr (unhide B0) hb1)
  have r1 := (unhide R1).at (o := 1) (v := .slice a1 l1 c1) rfl
  have zr := (unhide R1).lt
  clear hb1 R0 B0 q1
  cases G
  · have N : Hid (¬ GCav n l ts) := hide (fun h => by have := unhide gN h; cases this)
    go_wp2_with fail
    go_ret
    exact unhide NO (unhide N) (unhide B1)
  go_wp2_with fail
  refine (unhide q2 _ ((unhide HS1).keep (unhide B1))).mono ?_
  rintro e w2 ⟨⟨v, rfl, hv⟩, hb2⟩
  have HV := hide hv
  have R2 := hide ((unhide R1).keep hb2)
  have B2 := hide (bTr (unhide B1) hb2)
  clear hv hb2 q2 R1 B1 r1 zr
  have r1 := (unhide R2).at (o := 1) (v := .slice a1 l1 c1) rfl
  have r2 := (unhide R2).at (o := 2) (v := .slice a2 l2 c2) rfl
  have zr := (unhide R2).lt
  cases v
  · have N : Hid (¬ GCav n l ts) := hide (fun h => by have := (unhide HV).2 ⟨h.p6, h.all, h.ris⟩; cases this)
    go_wp2_with fail
    go_ret
    exact unhide NO (unhide N) (unhide B2)
  have HP := hide ((unhide HV).1 rfl)
  clear HV
  by_cases hz : l2 = 0
  · have N : Hid (¬ GCav n l ts) := hide (fun h => by have := h.t0; rw [← unhide L2] at this; omega)
    subst hz
    go_wp2_with fail
    go_ret
    exact unhide NO (unhide N) (unhide B2)
  have dz : ((l2 : Int) == 0) = false := by simp; omega
  have hmm := @run_makeMap Tryz.prog
  obtain ⟨W3, hW3⟩ : ∃ W, W = w2.alloc (.map #[] 0) := ⟨_, rfl⟩
  obtain ⟨W4, hW4⟩ : ∃ W, W = W3.alloc (.cells #[.map (some w2.heap.size)] 87) := ⟨_, rfl⟩
  have z3 : W3.heap.size = w2.heap.size + 1 := by rw [hW3]; simp
  have b3 : Below w2.heap.size w2 W3 := by rw [hW3]; exact bAl (Below.refl _ _) _
  have b4 : Below W3.heap.size W3 W4 := by rw [hW4]; exact bAl (Below.refl _ _) _
  have M4 : Hid (KMs W4 w2.heap.size 0 (kMap (l.take 0) fun _ => none)) := hide (by
    have h : KMs W3 w2.heap.size 0 (fun _ => none) := by rw [hW3]; exact KM.made _ _ _ _
    rw [List.take_zero]
    exact h.keepB b4 h.lt)
  have K4 := hide (show RowIs W4 (w2.heap.size + 1) #[.map (some w2.heap.size)] 87 by rw [hW4, ← z3]; exact RowIs.new _ _ _)
  have B4 := hide (bTr (bTr (unhide B2) b3) b4)
  have R4 := hide (((unhide R2).keep b3).keep b4)
  have HW4 := hide (show (w2.alloc (.map #[] 0)).alloc (.cells #[.map (some w2.heap.size)] 87) = W4 by rw [hW4, hW3])
  have zc := zr
  clear hW3 hW4 z3 b3 b4
  go_wp2_with fail
  rw [unhide HW4]
  clear hmm HW4 r1 r2 zr dz R2
  go_loopw [26] (fun i w' => ∃ k : Nat, k ≤ l1 ∧ i = .int .i64 k ∧ Hid (Below w.heap.size w w') ∧ Hid (RowIs w' w.heap.size #[.string n, .slice a1 l1 c1, .slice a2 l2 c2] 38) ∧ Hid (RowIs w' (w2.heap.size + 1) #[.map (some w2.heap.size)] 87) ∧ Hid (KMs w' w2.heap.size k (kMap (l.take k) fun _ => none))) (fun i _ => l1 - (Go.RowKit.intOf i).toNat)
  case atStart => exact ⟨0, Nat.zero_le _, rfl, B4, R4, K4, M4⟩
  case round =>
    clear B4 R4 K4 M4
    obtain ⟨k, hk, rfl, hb, hr, hK, hM⟩ := hrel
    have zr := (unhide hr).lt
    have zK := (unhide hK).lt
    by_cases hlt : k < l1
    · have hk' : k < l.length := by rw [← unhide L1]; exact hlt
      obtain ⟨b, off, rfl, hrow⟩ := ((unhide HS1).keep (unhide hb)).at hlt
      have c0 := hrow.c0 k hk'
      have c1' := hrow.c1 k hk'
      have zk := hrow.z
      have ho := unhide HO _ (List.getElem_mem hk')
      have o0 := ho.o0
      have eu := hide (updK_kMap hk')
      have f0 := (unhide hK).at (o := 0) (v := .map (some w2.heap.size)) rfl
      have h6 := (unhide HP).1
      clear hrow ho
      generalize l[k] = A at *
      obtain ⟨W5, hW5⟩ : ∃ W, W = wr.alloc (.cells #[.string A.f0, .int .i64 A.f1] 78) := ⟨_, rfl⟩
      have b5 : Below wr.heap.size wr W5 := by rw [hW5]; exact bAl (Below.refl _ _) _
      have M5 := hide ((unhide hM).keepB b5 (unhide hM).lt)
      have K5 := hide ((unhide hK).keep b5)
      have R5 := hide ((unhide hr).keep b5)
      have B5 := hide (bTr (unhide hb) b5)
      have HW5 := hide hW5.symm
      have hkm : k < maxLen := by unfold maxLen; omega
      clear hW5 b5
      go_wp2_with (at_mapUpdate; rw [unhide HW5]; refine wpList_put_km _ kStr rfl _ _ _ _ rfl _ Tryz.underlying87 w2.heap.size k _ rfl (unhide M5) hkm A.f0 (.int .i64 A.f1) rfl rfl o0 ?_; intro w6 h1 h2 h3)
      rw [unhide eu] at h1
      have zc' := zc
      have bw2 := (unhide B2).size
      exact ⟨⟨k + 1, by omega, by go_num, hide ((unhide B5).grown h2 (unhide B5).size (fun j h => by cases h; exact bw2)), hide (rowGrown (unhide R5) h2 (by simp; omega)), hide (rowGrown (unhide K5) h2 (by simp)), hide h1⟩, by simp [Go.RowKit.intOf]; omega⟩
    · have ek : k = l1 := by omega
      subst ek
      have hP := unhide HP
      have MM : Hid (KMs wr w2.heap.size k (kM l)) := hide (by
        have h := unhide hM
        rw [unhide L1, List.take_length] at h
        have e : (kMap l fun _ => none) = kM l := funext fun s => by rw [kMap_find l (fun i j hi hj e => hP.2.2.ne hi hj e)]; rfl
        rw [e] at h
        rw [unhide L1]; exact h)
      have f2 := (unhide hr).at (o := 2) (v := .slice a2 l2 c2) rfl
      have HC := (unhide hK).at (o := 0) (v := .map (some w2.heap.size)) rfl
      have q3 := hide (goodList_CavTerm (w2.heap.size + 1) (GTerm l) a2 l2 c2 ts wr (by unfold maxLen; omega) ((unhide HS2).keep (unhide hb)) (fun x hx w' h => goodCaveat1_any x (w2.heap.size + 1) w2.heap.size k l w' (unhide HT x hx) ((unhide MM).keepB h (unhide MM).lt) hP.2.1 (cellB h zK HC)))
      clear HC hP hM hlt
      go_wp2_with fail
      refine (unhide q3).mono ?_
      rintro e w7 ⟨⟨v, rfl, hv⟩, hb7⟩
      have HV := hide hv
      have B7 := hide (bTr (unhide hb) hb7)
      clear hv hb7 q3 f2
      go_wp2_with fail
      go_ret
      refine ⟨retB ?_, unhide B7⟩
      rw [unhide HV]
      constructor
      · rintro ⟨h1, h2⟩
        have t0 : 1 ≤ ts.length := by rw [← unhide L2]; omega
        refine ⟨unhide HG, ?_, (unhide HP).1, t0, by rw [← unhide L2]; exact h1, (unhide HP).2.1, (unhide HP).2.2, h2⟩
        exact (h2 0 (by omega) (by omega)).pos
      · intro h
        exact ⟨by rw [unhide L2]; exact h.t6, h.terms⟩
end Go.Proofs.YtmkgehcfdcoliaaGreat.V
