/- impl.caveatCondition. -/
import Derived.Test.YtmkgehcfdcoliaaGreatRCoo
import Derived.Test.YtmkgehcfdcoliaaGreatRHol
import Derived.Test.YtmkgehcfdcoliaaGreatRImC
import Derived.Deep.AppendLies
import Derived.Deep.RegionLaw
import Derived.Test.YtmkgehcfdcoliaaGreatRStp
namespace Go.Proofs.YtmkgehcfdcoliaaGreat.V
open Go.RowKit Go.Maps

theorem ownKeepB {B : Nat} {w w' : World} {base n e size : Nat} {v : Value} {xs : List Value} (h : w.ownsRow base e size v n xs) (hb : Below B w w') (hlt : ∀ g, v.ownBlock = some g → g < B) : w'.ownsRow base e size v n xs := by
  refine ⟨h.1, h.2.imp_right ?_⟩
  rintro ⟨g, cap, cur, e', h1, hh, r⟩
  have ho : v.ownBlock = some g := by rw [e']; rfl
  refine ⟨g, cap, cur, e', h1, ?_, r⟩
  rw [hb.block g (hlt g ho)]; exact hh
theorem ownKeep {w w' : World} {base n e size : Nat} {v : Value} {xs : List Value} (h : w.ownsRow base e size v n xs) (hb : Below w.heap.size w w') : w'.ownsRow base e size v n xs :=
  ownKeepB h hb fun g e => (h.lt g e).2
theorem KeptR.grown {lo hi : Nat} {w X Y : World} {row : Option Nat} (h : KeptR lo hi w X) (hg : X.grownBy Y row) (hr : ∀ g, row = some g → g < lo ∨ hi ≤ g) : KeptR lo hi w Y :=
  ⟨Nat.le_trans h.size hg.size, fun c h1 h2 => (hg.block c (Nat.lt_of_lt_of_le h2 h.size) (fun e => by have := hr c e.symm; omega)).trans (h.block c h1 h2)⟩
theorem CondV.fn {lo : Nat} {w : World} {v : Value} {F : (ByteArray → Option AtomT) → Int} (h : CondV lo w v F) : ∃ N c, v = .func (.func N) #[] c := by
  obtain ⟨N, c, e, _⟩ := h; exact ⟨N, c, e⟩
/-- A condition that was made, and the row u is none of what it hangs on. -/
def CI (base : Nat) (w' : World) (u : Value) (v : Value) (F : (ByteArray → Option AtomT) → Int) : Prop :=
  ∃ (wi : World) (lo : Nat), CondV lo wi v F ∧ KeptR lo wi.heap.size wi w' ∧ (∀ g, u.ownBlock = some g → g < lo ∨ wi.heap.size ≤ g) ∧ base ≤ lo
def CIs (base : Nat) (w' : World) (u : Value) (l : List ParamT) (ts : List CavTermT) (fv : List Value) : Prop :=
  ∀ i (h : i < fv.length) (h' : i < ts.length), CI base w' u fv[i] (fun g => termR l g ts[i])
theorem ownSet {w : World} {base n e size : Nat} {v : Value} {xs : List Value} (h : w.ownsRow base e size v n xs) (b o : Nat) (x : Value) (hb : b < base) : (w.setCell ⟨b, o, none⟩ x).ownsRow base e size v n xs := by
  refine ⟨h.1, h.2.imp_right ?_⟩
  rintro ⟨g, cap, cur, e', h1, hh, r⟩
  refine ⟨g, cap, cur, e', h1, ?_, r⟩
  rw [heap_setCell_other w ⟨b, o, none⟩ g x (by rintro rfl; omega)]; exact hh
theorem CIs_next {base L bt k : Nat} {wr w3 w5 : World} {u u' vc x : Value} {l : List ParamT} {ts : List CavTermT} {fv : List Value} {A : CavTermT} {o : Obj} (hk : k < ts.length) (hA : ts[k] = A) (fl : fv.length = k)
    (h : CIs base wr u l ts fv) (b1 : Below wr.heap.size wr w3) (hv : CondV L w3 vc (fun g => termR l g A)) (hLw : wr.heap.size ≤ L) (hbL : base ≤ L) (hgr : (w3.alloc o).grownBy w5 u.ownBlock) (hug : ∀ g, u.ownBlock = some g → g < wr.heap.size)
    (hat : ∀ g', u'.ownBlock = some g' → u.ownBlock = some g' ∨ w3.heap.size ≤ g') (hbt : bt < base) :
    CIs base (w5.setCell ⟨bt, 0, none⟩ x) u' l ts (fv ++ [vc]) := by
  intro i hi hi'
  rw [List.length_append, List.length_cons, List.length_nil] at hi
  by_cases e : i < k
  · obtain ⟨wi, lo, c, kp, hu, hb⟩ := h i (by omega) hi'
    rw [List.getElem_append_left (by omega)]
    refine ⟨wi, lo, c, (((kp.call b1).alloc o).grown hgr hu).set bt 0 x (.inl (by omega)), fun g' hg' => ?_, hb⟩
    rcases hat g' hg' with h1 | h1
    · exact hu g' h1
    · have := kp.size; have := b1.size; exact .inr (by omega)
  · obtain rfl : i = k := by omega
    have e1 : (fv ++ [vc])[i]'(by simp; omega) = vc := by
      rw [List.getElem_append_right (by omega)]; simp [fl]
    rw [e1]
    simp only [hA]
    refine ⟨w3, L, hv, (((KeptR.refl L w3).alloc o).grown hgr (fun g hg => .inl (by have := hug g hg; omega))).set bt 0 x (.inl (by omega)), fun g' hg' => ?_, hbL⟩
    rcases hat g' hg' with h1 | h1
    · exact .inl (by have := hug g' h1; omega)
    · exact .inr h1
theorem infoC : (Tryz.prog.info? 61).map (fun i => (i.zero, i.size, i.bytes)) = some (some .nilFunc, 1, 8) := by kernel_rfl

set_option maxRecDepth 20000 in
set_option maxHeartbeats 2000000 in
theorem caveatCond_any (nm : ByteArray) (l : List ParamT) (ts : List CavTermT) (a1 a2 : Option Addr) (l1 c1 l2 c2 : Nat) (w : World) (hl1 : l1 ≤ 1048576) (hl2 : l2 ≤ 1000)
    (hs1 : SlParam w a1 l1 l) (hs2 : SlCavTerm w a2 l2 ts) (hot : ∀ q ∈ ts, CavTermT.Ok q) :
    Calls Tryz.prog 27 #[.agg #[.string nm, .slice a1 l1 c1, .slice a2 l2 c2]] w fun e w' => (∃ u fv, e = .returned (.func (.func 50) #[] #[.pointer (some ⟨w.heap.size + 1, 0, none⟩)]) ∧ w'.ownsRow (w.heap.size + 1 + 1) 61 1 u ts.length fv ∧ RowIs w' (w.heap.size + 1) #[u] 91 ∧ CIs (w.heap.size + 1 + 1) w' u l ts fv) ∧ Below w.heap.size w w' := by
  have HS1 := hide hs1
  have HS2 := hide hs2
  have L2 := hide hs2.1
  have HO := hide hot
  have q := hide (fun t ht w h => termCond_any t a1 l1 c1 l w hl1 ht h)
  obtain ⟨i0, hi, hii⟩ := Option.map_eq_some_iff.1 infoC
  simp only [Prod.mk.injEq] at hii
  obtain ⟨hz0, hz1, hz2⟩ := hii
  obtain ⟨WA, hWA⟩ : ∃ W, W = w.alloc (.cells #[.string nm, .slice a1 l1 c1, .slice a2 l2 c2] 38) := ⟨_, rfl⟩
  obtain ⟨W0, hW0⟩ : ∃ W, W = WA.alloc (.cells #[.slice none 0 0] 91) := ⟨_, rfl⟩
  have zA' : WA.heap.size = w.heap.size + 1 := by rw [hWA]; simp
  have bA : Below w.heap.size w WA := by rw [hWA]; exact bAl (Below.refl _ _) _
  have b0 : Below WA.heap.size WA W0 := by rw [hW0]; exact bAl (Below.refl _ _) _
  have C0 := hide ((show RowIs WA w.heap.size #[.string nm, .slice a1 l1 c1, .slice a2 l2 c2] 38 by rw [hWA]; exact RowIs.new _ _ _).keep b0)
  have U0 := hide (show RowIs W0 (w.heap.size + 1) #[.slice none 0 0] 91 by rw [hW0, ← zA']; exact RowIs.new _ _ _)
  have B0 := hide (bTr bA b0)
  have HW0 := hide (show (w.alloc (.cells #[.string nm, .slice a1 l1 c1, .slice a2 l2 c2] 38)).alloc (.cells #[.slice none 0 0] 91) = W0 by rw [hW0, hWA])
  clear hs1 hs2 hot hWA hW0 zA' bA b0
  go_enter Tryz.func27, Tryz.ntmps27
  go_wp2_with fail
  rw [unhide HW0]
  clear HW0
  go_loopw [9] (fun i w' => ∃ (k : Nat) (u : Value) (fv : List Value), k ≤ l2 ∧ i = .int .i64 k ∧ Hid (w'.ownsRow (w.heap.size + 1 + 1) 61 1 u k fv) ∧ Hid (RowIs w' (w.heap.size + 1) #[u] 91) ∧ Hid (RowIs w' w.heap.size #[.string nm, .slice a1 l1 c1, .slice a2 l2 c2] 38) ∧ Hid (CIs (w.heap.size + 1 + 1) w' u l ts fv) ∧ Hid (Below w.heap.size w w')) (fun i _ => l2 - (Go.RowKit.intOf i).toNat)
  case atStart => exact ⟨0, .slice none 0 0, [], Nat.zero_le _, rfl, hide (World.ownsRow_nil _ _ _ _), U0, C0, hide (fun i h => absurd h (Nat.not_lt_zero _)), B0⟩
  case round =>
    clear U0 C0 B0
    obtain ⟨k, u, fv, hk, rfl, hown, hu, hc, hci, hb⟩ := hrel
    by_cases hlt : k < l2
    · have hk' : k < ts.length := by rw [← unhide L2]; exact hlt
      obtain ⟨b, off, rfl, hrow⟩ := ((unhide HS2).keep (unhide hb)).at hlt
      have c0 := hrow.c0 k hk'
      have e1 := hrow.c1 k hk'
      have e2 := hrow.c2 k hk'
      have e3 := hrow.c3 k hk'
      have e4 := hrow.c4 k hk'
      have e5 := hrow.c5 k hk'
      have e6 := hrow.c6 k hk'
      have zk := hrow.z
      have ho := unhide HO _ (List.getElem_mem hk')
      have eA := hide (show ∃ B, B = ts[k] from ⟨_, rfl⟩)
      clear hrow eA
      have HA := hide (rfl : ts[k] = ts[k])
      generalize hAA : ts[k] = A at *
      have HAA := hide hAA
      clear hAA HA
      have Q := hide (unhide q A ho)
      obtain ⟨W2, hW2⟩ : ∃ W, W = wr.alloc (.cells #[.string A.f0, .int .i64 A.f1, .string A.f2, .int .i64 A.f3, .int .i64 A.f4, .string A.f5, .string A.f6] 81) := ⟨_, rfl⟩
      have b2 : Below wr.heap.size wr W2 := by rw [hW2]; exact bAl (Below.refl _ _) _
      have T2 := (show RowIs W2 wr.heap.size #[.string A.f0, .int .i64 A.f1, .string A.f2, .int .i64 A.f3, .int .i64 A.f4, .string A.f5, .string A.f6] 81 by rw [hW2]; exact RowIs.new _ _ _)
      have U2 := (unhide hu).keep b2
      have C2 := (unhide hc).keep b2
      have HU2 := hide U2
      have tc2 := C2.at (o := 1) (v := .slice a1 l1 c1) rfl
      have zc2 := C2.lt
      have tt0 := T2.at (o := 0) (v := .string A.f0) rfl
      have tt1 := T2.at (o := 1) (v := .int .i64 A.f1) rfl
      have tt2 := T2.at (o := 2) (v := .string A.f2) rfl
      have tt3 := T2.at (o := 3) (v := .int .i64 A.f3) rfl
      have tt4 := T2.at (o := 4) (v := .int .i64 A.f4) rfl
      have tt5 := T2.at (o := 5) (v := .string A.f5) rfl
      have tt6 := T2.at (o := 6) (v := .string A.f6) rfl
      have zt2 := T2.lt
      have tu2 := U2.at (o := 0) (v := u) rfl
      have zu2 := U2.lt
      have nt1 := hide (show wr.heap.size ≠ w.heap.size + 1 by have := (unhide hu).lt; omega)
      have HT2 := hide T2
      have nt := hide (show some wr.heap.size ≠ u.ownBlock from fun e => by have := ((unhide hown).lt _ e.symm).2; omega)
      have HC2 := hide C2
      have HB2 := hide (bTr (unhide hb) b2)
      have O2 := hide (ownKeep (unhide hown) b2)
      have sz2 := b2.size
      have HKB := hide b2
      have HW2 := hide hW2.symm
      have QV : Hid (∀ w', Below W2.heap.size W2 w' → w'.cell? ⟨w.heap.size, 1, none⟩ = some (.slice a1 l1 c1) ∧ w'.cell? ⟨wr.heap.size, 0, none⟩ = some (.string A.f0) ∧ w'.cell? ⟨wr.heap.size, 1, none⟩ = some (.int .i64 A.f1) ∧ w'.cell? ⟨wr.heap.size, 2, none⟩ = some (.string A.f2) ∧ w'.cell? ⟨wr.heap.size, 3, none⟩ = some (.int .i64 A.f3) ∧ w'.cell? ⟨wr.heap.size, 4, none⟩ = some (.int .i64 A.f4) ∧ w'.cell? ⟨wr.heap.size, 5, none⟩ = some (.string A.f5) ∧ w'.cell? ⟨wr.heap.size, 6, none⟩ = some (.string A.f6)) := hide (fun w' h => have j := T2.keep h; ⟨(C2.keep h).at rfl, j.at rfl, j.at rfl, j.at rfl, j.at rfl, j.at rfl, j.at rfl, j.at rfl⟩)
      have hst : ∀ (w : World) (a : Addr) (N : FuncId) (c : Array Value) (m : Mode), (store a (.func (.func N) #[] c) m).run Tryz.prog w = stored Tryz.prog w a (.func (.func N) #[] c) m := fun w a N c m => run_store Tryz.prog w a _ m rfl
      have nu := hide (show some (w.heap.size + 1) ≠ u.ownBlock from fun e => by have := ((unhide O2).lt _ e.symm).1; omega)
      have nc := hide (show some w.heap.size ≠ u.ownBlock from fun e => by have := ((unhide O2).lt _ e.symm).1; omega)
      have ENT := hide (ent_of (N := 49) Tryz.func49 (by kernel_rfl) (by kernel_rfl))
      have fl : fv.length = k := by have := (unhide hown).1; simpa using this
      clear hW2 b2 T2 U2 C2 ho
      go_wp2_with fail
      rw [unhide HW2]
      clear HW2 c0 e1 e2 e3 e4 e5 e6
      go_region_law
        (first
          | (refine step_call _ (by rfl) 49 _ _ _ (by rfl) (tAgg A) (.slice a1 l1 c1) (by rfl) (by rfl) (unhide ENT) (unhide Q W2.drew ((unhide HS1).keep (unhide HB2).drew)) ?_; rintro e w3 ⟨⟨vc, rfl, hvc⟩, hb3⟩; obtain ⟨N1, k1', rfl⟩ := hvc.fn; refine ⟨_, rfl, ?_⟩; have HVC := hide hvc; have K3 := hide (undrew hb3); have U3 := (unhide HU2).keep (unhide K3); have tu3 := U3.at (o := 0) (v := u) rfl; have zu3 := U3.lt; clear hvc hb3 U3)
          | (refine step_append_lies _ (by rfl) _ _ _ (by rfl) (w.heap.size + 1 + 1) 61 i0 _ 1 8 Tryz.underlying91 hi hz0 hz1 hz2 rfl (by omega) u k fv (by rfl) ((ownKeep (unhide O2) (unhide K3)).alloc _) ⟨w3.heap.size, 0, none⟩ 1 1 [.func (.func N1) #[] k1'] (by rfl) (by rfl) (World.news_of_block (cs := #[.func (.func N1) #[] k1']) (t := 61) (fr := (0, 0)) (heap_alloc_new w3 _)) (by simp [Value.oneCell']) (by omega) (by unfold maxLen; omega) (by omega) (by have := (unhide K3).size; have := (unhide HU2).lt; simp; omega) (w3.heap.size + 1) (by simp) ?_; intro g cp w5 hown5 hgrow5 hat5 hlt5; have RB5 := rowGrown (((unhide HU2).keep (unhide K3)).keep (bAl (Below.refl _ _) _)) hgrow5 (unhide nu); have r5c := RB5.at (o := 0) (v := u) rfl; have r5f := RB5.froz 0; have HRB5 := hide RB5; have S5 := hide (show w5.cell? ⟨w.heap.size, 1, none⟩ = some (.slice a1 l1 c1) ∧ w5.cell? ⟨wr.heap.size, 0, none⟩ = some (.string A.f0) ∧ w5.cell? ⟨wr.heap.size, 1, none⟩ = some (.int .i64 A.f1) ∧ w5.cell? ⟨wr.heap.size, 2, none⟩ = some (.string A.f2) ∧ w5.cell? ⟨wr.heap.size, 3, none⟩ = some (.int .i64 A.f3) ∧ w5.cell? ⟨wr.heap.size, 4, none⟩ = some (.int .i64 A.f4) ∧ w5.cell? ⟨wr.heap.size, 5, none⟩ = some (.string A.f5) ∧ w5.cell? ⟨wr.heap.size, 6, none⟩ = some (.string A.f6) from have RC5 := rowGrown (((unhide HC2).keep (unhide K3)).keep (bAl (Below.refl _ _) _)) hgrow5 (unhide nc); have RT5 := rowGrown (((unhide HT2).keep (unhide K3)).keep (bAl (Below.refl _ _) _)) hgrow5 (unhide nt); ⟨RC5.at rfl, RT5.at rfl, RT5.at rfl, RT5.at rfl, RT5.at rfl, RT5.at rfl, RT5.at rfl, RT5.at rfl⟩); have S6 := hide (show ∀ x : Value, (w5.setCell ⟨w.heap.size + 1, 0, none⟩ x).cell? ⟨w.heap.size, 1, none⟩ = some (.slice a1 l1 c1) ∧ (w5.setCell ⟨w.heap.size + 1, 0, none⟩ x).cell? ⟨wr.heap.size, 0, none⟩ = some (.string A.f0) ∧ (w5.setCell ⟨w.heap.size + 1, 0, none⟩ x).cell? ⟨wr.heap.size, 1, none⟩ = some (.int .i64 A.f1) ∧ (w5.setCell ⟨w.heap.size + 1, 0, none⟩ x).cell? ⟨wr.heap.size, 2, none⟩ = some (.string A.f2) ∧ (w5.setCell ⟨w.heap.size + 1, 0, none⟩ x).cell? ⟨wr.heap.size, 3, none⟩ = some (.int .i64 A.f3) ∧ (w5.setCell ⟨w.heap.size + 1, 0, none⟩ x).cell? ⟨wr.heap.size, 4, none⟩ = some (.int .i64 A.f4) ∧ (w5.setCell ⟨w.heap.size + 1, 0, none⟩ x).cell? ⟨wr.heap.size, 5, none⟩ = some (.string A.f5) ∧ (w5.setCell ⟨w.heap.size + 1, 0, none⟩ x).cell? ⟨wr.heap.size, 6, none⟩ = some (.string A.f6) from fun x => have RC5 := (rowGrown (((unhide HC2).keep (unhide K3)).keep (bAl (Below.refl _ _) _)) hgrow5 (unhide nc)).setOther (b' := w.heap.size + 1) (o' := 0) x (by omega); have RT5 := (rowGrown (((unhide HT2).keep (unhide K3)).keep (bAl (Below.refl _ _) _)) hgrow5 (unhide nt)).setOther (b' := w.heap.size + 1) (o' := 0) x (unhide nt1); ⟨RC5.at rfl, RT5.at rfl, RT5.at rfl, RT5.at rfl, RT5.at rfl, RT5.at rfl, RT5.at rfl, RT5.at rfl⟩); have HOW := hide hown5; have HGR := hide hgrow5; have HAT := hide hat5; clear RB5 hown5 hgrow5 hat5))
      all_goals go_wp2_with fail
      all_goals
        have zz := (unhide hu).lt
        have og := fun g hg => ((unhide hown).lt g hg).2
        have k3s := (unhide K3).size
        have bb : w.heap.size + 1 + 1 ≤ g := by
          have := ((unhide HOW).lt g rfl).1; exact this
        exact ⟨⟨k + 1, .slice (some ⟨g, 0, none⟩) (k + 1) cp, fv ++ [.func (.func N1) #[] k1'], by omega, by go_num, hide (ownSet (unhide HOW) _ _ _ (by omega)), hide ((unhide HRB5).set 0 _),
          hide ((rowGrown (((unhide HC2).keep (unhide K3)).keep (bAl (Below.refl _ _) _)) (unhide HGR) (unhide nc)).setOther _ (by omega)),
          hide (CIs_next hk' (unhide HAA) fl (unhide hci) (bTr (unhide HKB) (unhide K3)) (unhide HVC) sz2 (by show w.heap.size + 1 + 1 ≤ W2.heap.size; omega) (unhide HGR) og (fun g' hg' => by
            have eg : g' = g := by simpa [Value.ownBlock] using hg'.symm
            subst eg
            rcases unhide HAT with h | h
            · exact .inl h
            · exact .inr (by omega)) (by omega)),
          hide (((bAl (bTr (unhide HB2) (unhide K3)) _).grown (unhide HGR) (by have := (unhide HB2).size; simp; omega) (fun j hj => by have := ((unhide hown).lt j hj).1; omega)).setCell (by show w.heap.size ≤ w.heap.size + 1; omega) _)⟩, by simp [Go.RowKit.intOf]; omega⟩
    · have ek : k = ts.length := by rw [← unhide L2]; omega
      subst ek
      go_wp2_with fail
      go_ret
      exact ⟨⟨u, fv, rfl, unhide hown, unhide hu, unhide hci⟩, unhide hb⟩
end Go.Proofs.YtmkgehcfdcoliaaGreat.V
