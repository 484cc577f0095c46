/- RGiv, RCoo, one behind the other. -/
import Derived.Test.YtdflnjjomljgmaaGreatDoorJ40
import Derived.Test.YtdflnjjomljgmaaGreatDoorJ41
import Derived.Deep.RegionHeld3
/- impl.givenAtomsOf. -/
namespace Go.Proofs.YtdflnjjomljgmaaGreatDoor.V
open Go.RowKit Go.Maps

theorem RisN.lt {l : List ByteArray} (h : RisN l l.length) : ∀ (d i : Nat) (hj : i + d + 1 < l.length), cmpT (l[i]'(by omega)).data.toList (l[i + d + 1]).data.toList < 0
  | 0, i, hj => by have := h (i + 1) (by omega) (by omega) (by omega); simpa using this
  | d + 1, i, hj => by
    have h1 := RisN.lt h d i (by omega)
    have h2 := h (i + (d + 1) + 1) (by omega) (by omega) (by omega)
    have h3 : cmpT (l[i + d + 1]'(by omega)).data.toList (l[i + (d + 1) + 1]'hj).data.toList < 0 := h2
    exact cmpT_trans h1 h3
theorem RisN.ne {l : List ByteArray} (h : RisN l l.length) {i j : Nat} (hi : i < l.length) (hj : j < l.length) (e : l[i] = l[j]) : i = j := by
  rcases Nat.lt_trichotomy i j with g | g | g
  · obtain ⟨d, rfl⟩ : ∃ d, j = i + d + 1 := ⟨j - i - 1, by omega⟩
    have := h.lt d i hj
    rw [e, cmpT_self] at this; omega
  · exact g
  · obtain ⟨d, rfl⟩ : ∃ d, i = j + d + 1 := ⟨i - j - 1, by omega⟩
    have := h.lt d j hi
    rw [← e, cmpT_self] at this; omega

/-- The map of the first k names. -/
def aMap (ns : List ByteArray) (xs : List AtomT) : Nat → ByteArray → Option Value
  | 0 => fun _ => none
  | k + 1 => updK (aMap ns xs k) (ns.getD k empB) (atomV (xs.getD k zA))
theorem aMap_step {ns : List ByteArray} {xs : List AtomT} {k : Nat} (h1 : k < ns.length) (h2 : k < xs.length) : updK (aMap ns xs k) ns[k] (atomV xs[k]) = aMap ns xs (k + 1) := by
  rw [aMap]; simp [h1, h2]
theorem aMap_notin {ns : List ByteArray} {xs : List AtomT} {k : Nat} {s : ByteArray} (hk : k ≤ ns.length) (h : ∀ i (hi : i < ns.length), i < k → ns[i] ≠ s) : aMap ns xs k s = none := by
  induction k with
  | zero => rfl
  | succ k ih =>
    rw [aMap]
    have h0 := h k (by omega) (by omega)
    have h1 : ns.getD k empB = ns[k]'(by omega) := by simp [show k < ns.length by omega]
    rw [h1]
    simp only [updK]
    rw [if_neg (Ne.symm h0)]
    exact ih (by omega) (fun i hi hik => h i hi (by omega))
theorem aMap_at {ns : List ByteArray} {xs : List AtomT} (hd : ∀ i j (hi : i < ns.length) (hj : j < ns.length), ns[i] = ns[j] → i = j) {k j : Nat} (hk : k ≤ ns.length) (hx : k ≤ xs.length) (hj : j < k) : aMap ns xs k (ns[j]'(by omega)) = some (atomV (xs[j]'(by omega))) := by
  induction k with
  | zero => omega
  | succ k ih =>
    rw [aMap]
    have h1 : ns.getD k empB = ns[k]'(by omega) := by simp [show k < ns.length by omega]
    have h2 : xs.getD k zA = xs[k]'(by omega) := by simp [show k < xs.length by omega]
    rw [h1, h2]
    simp only [updK]
    by_cases e : j = k
    · subst e; rw [if_pos rfl]
    · rw [if_neg (fun e2 => e (hd _ _ _ _ e2))]
      exact ih (by omega) (by omega) (by omega)
theorem aMap_all {v : ValT} (hr : Rec v) : aMap v.names v.items v.names.length = gM (gOf v) := by
  obtain ⟨_, _, hn, _, hris⟩ := hr.parts
  funext s
  unfold gM gOf
  by_cases h : ∃ j, ∃ hj : j < v.names.length, v.names[j] = s
  · -- the first one
    obtain ⟨j, hj, rfl⟩ := h
    rw [aMap_at (fun i j hi hj e => hris.ne hi hj e) (Nat.le_refl _) (by omega) hj]
    rw [fldA_at hj (by omega) (fun i hi hij e => by have := hris.ne hi hj e; omega) rfl]
    rfl
  · have hno : ∀ i (hi : i < v.names.length), v.names[i] ≠ s := fun i hi e => h ⟨i, hi, e⟩
    rw [aMap_notin (Nat.le_refl _) (fun i hi _ => hno i hi), fldA_none hno]
    rfl

set_option maxRecDepth 20000 in
set_option maxHeartbeats 1000000 in
theorem givenAtomsOf_any (v : ValT) (hv : v.Ok) (hr : Rec v) (a1 a2 : Option Addr) (l1 c1 l2 c2 : Nat) (w : World) (hs1 : SlA w a1 l1 v.items) (hs2 : SlS w a2 l2 v.names) :
    Calls Tryz.prog 84 #[vAgg v a1 l1 c1 a2 l2 c2] w fun e w' => (∃ b n, e = .returned (.map (some b)) ∧ KMs w' b n (gM (gOf v))) ∧ Below w.heap.size w w' := by
  obtain ⟨h50, _, hnl, _, _⟩ := hr.parts
  have HA := hide (aMap_all hr)
  have HS1 := hide hs1
  have HS2 := hide hs2
  have L1 := hide hs1.1
  have L2 := hide hs2.1
  have HE := hide hnl
  have HN := hide hv.names
  have h5 : l2 ≤ 50 := by rw [hs2.1, hnl]; exact h50
  obtain ⟨W1, hW1⟩ : ∃ W, W = w.alloc (.cells #[.int .i64 v.k, .int .i64 v.a.x, .int .i64 v.a.n, .string v.a.t, .string v.a.y, .slice a1 l1 c1, .slice a2 l2 c2] 43) := ⟨_, rfl⟩
  obtain ⟨W2, hW2⟩ : ∃ W, W = W1.alloc (.map #[] 0) := ⟨_, rfl⟩
  have z1 : W1.heap.size = w.heap.size + 1 := by rw [hW1]; simp
  have b1 : Below w.heap.size w W1 := by rw [hW1]; exact bAl (Below.refl _ _) _
  have b2 : Below W1.heap.size W1 W2 := by rw [hW2]; exact bAl (Below.refl _ _) _
  have V2 := hide ((show RowIs W1 w.heap.size #[.int .i64 v.k, .int .i64 v.a.x, .int .i64 v.a.n, .string v.a.t, .string v.a.y, .slice a1 l1 c1, .slice a2 l2 c2] 43 by rw [hW1]; exact RowIs.new _ _ _).keep b2)
  have M2 : Hid (KMs W2 (w.heap.size + 1) 0 (aMap v.names v.items 0)) := hide (by rw [hW2, ← z1]; exact KM.made _ _ _ _)
  have B2 := hide (bTr b1 b2)
  have HW2 := hide (show (w.alloc (.cells #[.int .i64 v.k, .int .i64 v.a.x, .int .i64 v.a.n, .string v.a.t, .string v.a.y, .slice a1 l1 c1, .slice a2 l2 c2] 43)).alloc (.map #[] 0) = W2 by rw [hW2, hW1])
  have hmm := @run_makeMap Tryz.prog
  clear hs1 hs2 hr hv h50 hnl hW1 hW2 z1 b1 b2
  go_enter Tryz.func84, Tryz.ntmps84
  go_wp2_with fail
  rw [unhide HW2]
  clear HW2 hmm
  go_loopw [10] (fun i w' => ∃ k : Nat, k ≤ l2 ∧ i = .int .i64 k ∧ Hid (Below w.heap.size w w') ∧ Hid (RowIs w' w.heap.size #[.int .i64 v.k, .int .i64 v.a.x, .int .i64 v.a.n, .string v.a.t, .string v.a.y, .slice a1 l1 c1, .slice a2 l2 c2] 43) ∧ Hid (KMs w' (w.heap.size + 1) k (aMap v.names v.items k))) (fun i _ => l2 - (Go.RowKit.intOf i).toNat)
  case atStart => exact ⟨0, Nat.zero_le _, rfl, B2, V2, M2⟩
  case round =>
    clear B2 V2 M2
    obtain ⟨k, hk, rfl, hb, hv, hM⟩ := hrel
    have zv := (unhide hv).lt
    by_cases hlt : k < l2
    · have hk' : k < v.names.length := by rw [← unhide L2]; exact hlt
      have hk2 : k < v.items.length := by rw [← unhide HE]; exact hk'
      have hk3 : k < l1 := by rw [unhide L1]; exact hk2
      obtain ⟨b, off, rfl, hrow⟩ := ((unhide HS2).keep (unhide hb)).at hlt
      obtain ⟨b', off', rfl, hrow'⟩ := ((unhide HS1).keep (unhide hb)).at hk3
      have c0 := hrow.c k hk'
      have zk := hrow.z
      have i0 := (hrow'.c k hk2).c0
      have i1 := (hrow'.c k hk2).c1
      have i2 := (hrow'.c k hk2).c2
      have i3 := (hrow'.c k hk2).c3
      have zi := hrow'.z
      have v5 := (unhide hv).at (o := 5) (v := .slice (some ⟨b', off', none⟩) l1 c1) rfl
      have o0 := unhide HN _ (List.getElem_mem hk')
      have eu := hide (aMap_step (ns := v.names) (xs := v.items) hk' hk2)
      have k0 : (0 : Int) ≤ (k : Int) := by omega
      have k3 : (k : Int) < (l1 : Int) := by omega
      have hkm : k < maxLen := by unfold maxLen; omega
      clear hrow hrow'
      generalize v.items[k] = A at *
      generalize v.names[k] = S at *
      go_wp2_with (at_mapUpdate; refine wpList_put_km _ kStr rfl _ _ _ _ rfl _ Tryz.underlying109 (w.heap.size + 1) k _ rfl (unhide hM) hkm S (atomV A) rfl rfl o0 ?_; intro w6 h1 h2 h3)
      rw [unhide eu] at h1
      exact ⟨⟨k + 1, by omega, by go_num, hide ((unhide hb).grown h2 (unhide hb).size (fun j h => by cases h; omega)), hide (rowGrown (unhide hv) h2 (by simp)), hide h1⟩, by simp [Go.RowKit.intOf]; omega⟩
    · have ek : k = l2 := by omega
      subst ek
      have MM : Hid (KMs wr (w.heap.size + 1) k (gM (gOf v))) := hide (by rw [← unhide HA, ← unhide L2]; exact unhide hM)
      go_wp2_with fail
      go_ret
      exact ⟨⟨_, _, rfl, unhide MM⟩, unhide hb⟩
end Go.Proofs.YtdflnjjomljgmaaGreatDoor.V
/- impl.termCondition. -/
namespace Go.Proofs.YtdflnjjomljgmaaGreatDoor.V
open Go.RowKit Go.Maps

theorem box1 {W w1 : World} (hb : Below (W.alloc (.cells #[.nilFunc] 121)).heap.size (W.alloc (.cells #[.nilFunc] 121)) w1) : RowIs w1 W.heap.size #[.nilFunc] 121 := (RowIs.new W _ _).keep hb
theorem box2 {W w1 : World} (hb : Below ((W.alloc (.cells #[.nilFunc] 121)).alloc (.cells #[.nilFunc] 121)).heap.size ((W.alloc (.cells #[.nilFunc] 121)).alloc (.cells #[.nilFunc] 121)) w1) : RowIs w1 W.heap.size #[.nilFunc] 121 ∧ RowIs w1 (W.heap.size + 1) #[.nilFunc] 121 := by
  refine ⟨((RowIs.new W _ _).keep (bAl (Below.refl _ _) _)).keep hb, ?_⟩
  have := (RowIs.new (W.alloc (.cells #[.nilFunc] 121)) #[.nilFunc] 121).keep hb
  rwa [World.size_alloc] at this
theorem rowNew1 (W : World) (o : Obj) (C : Array Value) (T : TypeId) : RowIs ((W.alloc o).alloc (.cells C T)) (W.heap.size + 1) C T := by
  have := RowIs.new (W.alloc o) C T
  rwa [World.size_alloc] at this
theorem rowNewS (W : World) (b o : Nat) (v : Value) (C : Array Value) (T : TypeId) : RowIs ((W.setCell ⟨b, o, none⟩ v).alloc (.cells C T)) W.heap.size C T := by
  have := RowIs.new (W.setCell ⟨b, o, none⟩ v) C T
  have e : (W.setCell ⟨b, o, none⟩ v).heap.size = W.heap.size := by simp [World.setCell]
  rwa [e] at this
theorem rowSet1 {W : World} {b : Nat} {v : Value} {T : TypeId} (h : RowIs W b #[.nilFunc] T) : RowIs (W.setCell ⟨b, 0, none⟩ v) b #[v] T := h.set 0 v
theorem KeptR.call {lo hi : Nat} {w X w2 : World} (h : KeptR lo hi w X) (hb : Below X.heap.size X w2) : KeptR lo hi w w2 :=
  ⟨Nat.le_trans h.size hb.size, fun c h1 h2 => (hb.block c (Nat.lt_of_lt_of_le h2 h.size)).trans (h.block c h1 h2)⟩
theorem KeptR.drew {lo hi : Nat} {w w' : World} (h : KeptR lo hi w w') : KeptR lo hi w w'.drew := ⟨h.size, h.block⟩

theorem szA (W : World) (o : Obj) : (W.alloc o).drew.heap.size = W.heap.size + 1 := World.size_alloc W o
theorem szA' (W : World) (o : Obj) : (W.drew.alloc o).heap.size = W.heap.size + 1 := World.size_alloc W.drew o
theorem szB (W : World) (o p : Obj) : ((W.alloc o).alloc p).drew.heap.size = W.heap.size + 1 + 1 := by show ((W.alloc o).alloc p).heap.size = _; rw [World.size_alloc, World.size_alloc]
theorem szB' (W : World) (o p : Obj) : ((W.drew.alloc o).alloc p).heap.size = W.heap.size + 1 + 1 := by rw [World.size_alloc, World.size_alloc]; rfl
theorem szC (W : World) (o p : Obj) : ((W.alloc o).drew.alloc p).heap.size = W.heap.size + 1 + 1 := by rw [World.size_alloc]; show (W.alloc o).heap.size + 1 = _; rw [World.size_alloc]
theorem SideV.ex {lo : Nat} {w : World} {v : Value} {F : (ByteArray → Option AtomT) → AtomT × Bool} (h : SideV lo w v F) : ∃ L, L = lo ∧ SideV L w v F := ⟨lo, rfl, h⟩
theorem condFin (t : CavTermT) (l : List ParamT) (W : World) (lo lo1 lo2 bl br bt : Nat) (vl vr : Value) (ht : t.Ok) (h1 : RowIs W bl #[vl] 121) (h2 : RowIs W br #[vr] 121) (h3 : RowIs W bt #[.string t.f0, .int .i64 t.f1, .string t.f2, .int .i64 t.f3, .int .i64 t.f4, .string t.f5, .string t.f6] 58)
    (sl : SideV lo1 W vl (sdP l t.f0)) (sr : SideV lo2 W vr (sdR l t)) (z1 : lo ≤ bl) (z2 : lo ≤ br) (z3 : lo ≤ bt) (z4 : lo ≤ lo1) (z5 : lo ≤ lo2) :
    CondV lo W (.func (.func 107) #[] #[.pointer (some ⟨bl, 0, none⟩), .pointer (some ⟨br, 0, none⟩), .pointer (some ⟨bt, 0, none⟩)]) (fun g => termR l g t) := by
  refine ⟨_, _, rfl, ent_of Tryz.func107 (by kernel_rfl) (by kernel_rfl), fun w' b n g hk hm hg => ?_⟩
  have := termCond1_any t bl br bt b n vl vr (sdP l t.f0) (sdR l t) g w' hm ((h1.keptR hk z1).at (o := 0) rfl) ((h2.keptR hk z2).at (o := 0) rfl) (h3.keptR hk z3) lo1 lo2 (sl.keep (hk.less z4)) (sr.keep (hk.less z5)) (sdP_ok hg) (sdR_ok ht hg)
  rw [tRes_sd] at this
  exact this

set_option maxRecDepth 20000 in
set_option maxHeartbeats 8000000 in
theorem termCond_any (t : CavTermT) (a : Option Addr) (len cap : Nat) (l : List ParamT) (w : World) (hl : len ≤ 1048576) (ht : t.Ok) (hs : SlParam w a len l) :
    Calls Tryz.prog 83 #[tAgg t, .slice a len cap] w fun e w' => (∃ v, e = .returned v ∧ CondV w.heap.size w' v (fun g => termR l g t)) ∧ Below w.heap.size w w' := by
  obtain ⟨W0, hW0⟩ : ∃ W, W = w.alloc (.cells #[.string t.f0, .int .i64 t.f1, .string t.f2, .int .i64 t.f3, .int .i64 t.f4, .string t.f5, .string t.f6] 58) := ⟨_, rfl⟩
  have B0 := hide (show Below w.heap.size w W0 by rw [hW0]; exact bAl (Below.refl _ _) _)
  have R0 := show RowIs W0 w.heap.size #[.string t.f0, .int .i64 t.f1, .string t.f2, .int .i64 t.f3, .int .i64 t.f4, .string t.f5, .string t.f6] 58 by rw [hW0]; exact RowIs.new _ _ _
  have HS := hide (hs.keep (unhide B0))
  have q1 := hide (fun w hs => paramSide_any t.f0 a len cap l w hl ht.o0 hs)
  have q2 := hide (fun w hs => rightSide_any t a len cap l w hl ht hs)
  have HO := hide ht
  have HW0 := hide hW0.symm
  have hst : ∀ (w : World) (a : Addr) (N : FuncId) (c : Array Value) (m : Mode), (store a (.func (.func N) #[] c) m).run Tryz.prog w = stored Tryz.prog w a (.func (.func N) #[] c) m := fun w a N c m => run_store Tryz.prog w a _ m rfl
  have QV : Hid (∀ w', Below W0.heap.size W0 w' → w'.cell? ⟨w.heap.size, 0, none⟩ = some (.string t.f0) ∧ w'.cell? ⟨w.heap.size, 1, none⟩ = some (.int .i64 t.f1) ∧ w'.cell? ⟨w.heap.size, 2, none⟩ = some (.string t.f2) ∧ w'.cell? ⟨w.heap.size, 3, none⟩ = some (.int .i64 t.f3) ∧ w'.cell? ⟨w.heap.size, 4, none⟩ = some (.int .i64 t.f4) ∧ w'.cell? ⟨w.heap.size, 5, none⟩ = some (.string t.f5) ∧ w'.cell? ⟨w.heap.size, 6, none⟩ = some (.string t.f6)) := hide (fun w' h => have k := R0.keep h; ⟨k.at rfl, k.at rfl, k.at rfl, k.at rfl, k.at rfl, k.at rfl, k.at rfl⟩)
  have zt := R0.lt
  have s0 : w.heap.size < W0.heap.size := zt
  have HR0 := hide R0
  clear hs hW0 ht R0
  go_enter Tryz.func83, Tryz.ntmps83
  go_wp2_with fail
  rw [unhide HW0]
  clear HW0
  go_region_held3 (fun w' => w'.cell? ⟨w.heap.size, 0, none⟩ = some (.string t.f0) ∧ w'.cell? ⟨w.heap.size, 1, none⟩ = some (.int .i64 t.f1) ∧ w'.cell? ⟨w.heap.size, 2, none⟩ = some (.string t.f2) ∧ w'.cell? ⟨w.heap.size, 3, none⟩ = some (.int .i64 t.f3) ∧ w'.cell? ⟨w.heap.size, 4, none⟩ = some (.int .i64 t.f4) ∧ w'.cell? ⟨w.heap.size, 5, none⟩ = some (.string t.f5) ∧ w'.cell? ⟨w.heap.size, 6, none⟩ = some (.string t.f6))
    ((exact unhide QV _ (by (repeat (first | exact Below.refl _ _ | exact unhide BW2 | exact unhide BW1 | refine Below.drew ?_ | refine bAl ?_ _ | refine Below.setCell ?_ (by first | omega | (simp; done) | (simp; omega) | (show _ ≤ _; omega)) _)); (first | done | fail))))
    (first
      | (go_at_call 105; refine (unhide q1 _ ?_).mono ?_; (exact (unhide HS).keep (by (repeat (first | exact Below.refl _ _ | refine Below.drew ?_ | refine bAl ?_ _)); (first | done | fail))); rintro e w1 ⟨⟨vl, rfl, hvl⟩, hb1⟩; obtain ⟨N1, k1', rfl⟩ := hvl.fn; have BW1 := hide (bTr (show Below W0.heap.size W0 _ from (by (repeat (first | exact Below.refl _ _ | refine Below.drew ?_ | refine bAl ?_ _)); (first | done | fail))) hb1); obtain ⟨L1, hL1, hvl1⟩ := hvl.ex; have HVL := hide hvl1; have lw1 : L1 ≤ w1.heap.size := (by rw [hL1]; exact hb1.size); have lW0 : W0.heap.size ≤ L1 := (by rw [hL1]; (first | exact Nat.le_refl _ | (rw [szA]; omega) | (rw [szA']; omega) | (rw [szB]; omega) | (rw [szB']; omega) | (rw [szC]; omega))); (try have lp1 : W0.heap.size < L1 := (by rw [hL1]; (first | (rw [szA]; omega) | (rw [szA']; omega) | (rw [szB]; omega) | (rw [szB']; omega) | (rw [szC]; omega)))); (try have lp2 : W0.heap.size + 1 < L1 := (by rw [hL1]; (first | (rw [szA]; omega) | (rw [szA']; omega) | (rw [szB]; omega) | (rw [szB']; omega) | (rw [szC]; omega)))); clear hL1 hvl1; (try have p1 := show RowIs w1 W0.heap.size #[.nilFunc] 121 from box1 hb1); (try have p1 := show RowIs w1 W0.heap.size #[.nilFunc] 121 from box1 (undrew hb1)); (try have p12 := show RowIs w1 W0.heap.size #[.nilFunc] 121 ∧ RowIs w1 (W0.heap.size + 1) #[.nilFunc] 121 from box2 hb1); (try have p12 := show RowIs w1 W0.heap.size #[.nilFunc] 121 ∧ RowIs w1 (W0.heap.size + 1) #[.nilFunc] 121 from box2 (undrew hb1)); (try (have p1 := p12.1; have p2 := p12.2)); (try (have p1c := p1.at (o := 0) (v := .nilFunc) rfl; have p1f := p1.froz 0; have p1z := p1.lt)); (try (have p2c := p2.at (o := 0) (v := .nilFunc) rfl; have p2f := p2.froz 0; have p2z := p2.lt)); have s1 := (unhide BW1).size; clear hvl hb1)
      | (go_at_call 106; refine (unhide q2 _ ?_).mono ?_; (exact (unhide HS).keep (by (repeat (first | exact Below.refl _ _ | exact unhide BW1 | refine Below.drew ?_ | refine bAl ?_ _ | refine Below.setCell ?_ (by first | omega | (simp; done) | (simp; omega) | (show _ ≤ _; omega)) _)); (first | done | fail))); rintro e w2 ⟨⟨vr, rfl, hvr⟩, hb2⟩; obtain ⟨N2, k2', rfl⟩ := hvr.fn; obtain ⟨L2, hL2, hvr2⟩ := hvr.ex; have HVR := hide hvr2; have lw2 : L2 ≤ w2.heap.size := (by rw [hL2]; exact hb2.size); have hL2' := hL2; (try simp at hL2'); (try have lz2 : w1.heap.size ≤ L2 := (by rw [hL2]; (first | exact Nat.le_refl _ | (simp; done) | (simp; omega)))); clear hvr2; have K12 := hide (KeptR.call (show KeptR L1 w1.heap.size w1 _ from (by (repeat (first | exact KeptR.refl _ _ | refine KeptR.alloc ?_ _ | refine KeptR.drew ?_ | refine KeptR.set ?_ _ _ _ (by first | omega | (left; simp; done) | (left; simp; omega) | (right; simp; done) | (right; simp; omega)))); (first | done | fail))) hb2); have BW2 := hide (bTr (show Below W0.heap.size W0 _ from (by (repeat (first | exact Below.refl _ _ | exact unhide BW1 | refine Below.drew ?_ | refine bAl ?_ _ | refine Below.setCell ?_ (by first | omega | (simp; done) | (simp; omega) | (show _ ≤ _; omega)) _)); (first | done | fail))) hb2); (try (have ran : RowIs w2 (W0.heap.size) #[.nilFunc] 121 := RowIs.keep (by (repeat (first | exact p1 | exact p2 | exact RowIs.new _ _ _ | exact rowNew1 _ _ _ _ | exact p1.set 0 _ | exact p2.set 0 _ | refine RowIs.keep ?_ (bAl (Below.refl _ _) _) | refine RowIs.setOther ?_ _ (by omega))); (first | done | fail)) hb2; have ranc := ran.at (o := 0) (v := .nilFunc) rfl; have ranf := ran.froz 0; have ranz := ran.lt)); (try (have rav : RowIs w2 (W0.heap.size) #[.func (.func N1) #[] k1'] 121 := RowIs.keep (by (repeat (first | exact p1 | exact p2 | exact RowIs.new _ _ _ | exact rowNew1 _ _ _ _ | exact p1.set 0 _ | exact p2.set 0 _ | refine RowIs.keep ?_ (bAl (Below.refl _ _) _) | refine RowIs.setOther ?_ _ (by omega))); (first | done | fail)) hb2; have ravc := rav.at (o := 0) (v := .func (.func N1) #[] k1') rfl; have ravf := rav.froz 0; have ravz := rav.lt)); (try (have rbn : RowIs w2 (W0.heap.size + 1) #[.nilFunc] 121 := RowIs.keep (by (repeat (first | exact p1 | exact p2 | exact RowIs.new _ _ _ | exact rowNew1 _ _ _ _ | exact p1.set 0 _ | exact p2.set 0 _ | refine RowIs.keep ?_ (bAl (Below.refl _ _) _) | refine RowIs.setOther ?_ _ (by omega))); (first | done | fail)) hb2; have rbnc := rbn.at (o := 0) (v := .nilFunc) rfl; have rbnf := rbn.froz 0; have rbnz := rbn.lt)); (try (have rbv : RowIs w2 (W0.heap.size + 1) #[.func (.func N1) #[] k1'] 121 := RowIs.keep (by (repeat (first | exact p1 | exact p2 | exact RowIs.new _ _ _ | exact rowNew1 _ _ _ _ | exact p1.set 0 _ | exact p2.set 0 _ | refine RowIs.keep ?_ (bAl (Below.refl _ _) _) | refine RowIs.setOther ?_ _ (by omega))); (first | done | fail)) hb2; have rbvc := rbv.at (o := 0) (v := .func (.func N1) #[] k1') rfl; have rbvf := rbv.froz 0; have rbvz := rbv.lt)); (try (have rcn : RowIs w2 (w1.heap.size) #[.nilFunc] 121 := RowIs.keep (by (repeat (first | exact p1 | exact p2 | exact RowIs.new _ _ _ | exact rowNew1 _ _ _ _ | exact p1.set 0 _ | exact p2.set 0 _ | refine RowIs.keep ?_ (bAl (Below.refl _ _) _) | refine RowIs.setOther ?_ _ (by omega))); (first | done | fail)) hb2; have rcnc := rcn.at (o := 0) (v := .nilFunc) rfl; have rcnf := rcn.froz 0; have rcnz := rcn.lt)); (try (have rcv : RowIs w2 (w1.heap.size) #[.func (.func N1) #[] k1'] 121 := RowIs.keep (by (repeat (first | exact p1 | exact p2 | exact RowIs.new _ _ _ | exact rowNew1 _ _ _ _ | exact p1.set 0 _ | exact p2.set 0 _ | refine RowIs.keep ?_ (bAl (Below.refl _ _) _) | refine RowIs.setOther ?_ _ (by omega))); (first | done | fail)) hb2; have rcvc := rcv.at (o := 0) (v := .func (.func N1) #[] k1') rfl; have rcvf := rcv.froz 0; have rcvz := rcv.lt)); (try (have rdn : RowIs w2 (w1.heap.size + 1) #[.nilFunc] 121 := RowIs.keep (by (repeat (first | exact p1 | exact p2 | exact RowIs.new _ _ _ | exact rowNew1 _ _ _ _ | exact p1.set 0 _ | exact p2.set 0 _ | refine RowIs.keep ?_ (bAl (Below.refl _ _) _) | refine RowIs.setOther ?_ _ (by omega))); (first | done | fail)) hb2; have rdnc := rdn.at (o := 0) (v := .nilFunc) rfl; have rdnf := rdn.froz 0; have rdnz := rdn.lt)); (try (have rdv : RowIs w2 (w1.heap.size + 1) #[.func (.func N1) #[] k1'] 121 := RowIs.keep (by (repeat (first | exact p1 | exact p2 | exact RowIs.new _ _ _ | exact rowNew1 _ _ _ _ | exact p1.set 0 _ | exact p2.set 0 _ | refine RowIs.keep ?_ (bAl (Below.refl _ _) _) | refine RowIs.setOther ?_ _ (by omega))); (first | done | fail)) hb2; have rdvc := rdv.at (o := 0) (v := .func (.func N1) #[] k1') rfl; have rdvf := rdv.froz 0; have rdvz := rdv.lt)); (try have ne1 : W0.heap.size ≠ w1.heap.size := by have := p1.lt; omega); (try have ne2 : w1.heap.size ≠ W0.heap.size := by have := p1.lt; omega); have s2 : w1.heap.size ≤ w2.heap.size := (unhide K12).size; clear hvr hb2))
  all_goals go_wp2_with fail
  all_goals go_ret
  all_goals refine ⟨⟨_, rfl, condFin t l _ w.heap.size L1 L2 _ _ w.heap.size _ _ (unhide HO) (by (repeat (first | exact ran | exact rav | exact rbn | exact rbv | exact rcn | exact rcv | exact rdn | exact rdv | exact ran.set 0 _ | exact rbn.set 0 _ | exact rcn.set 0 _ | exact rdn.set 0 _ | exact RowIs.new _ _ _ | exact rowNew1 _ _ _ _ | exact rowNewS _ _ _ _ _ _ | refine rowSet1 ?_ | refine RowIs.keep ?_ (bAl (Below.refl _ _) _) | refine RowIs.setOther ?_ _ (by omega))); (first | done | fail)) (by (repeat (first | exact ran | exact rav | exact rbn | exact rbv | exact rcn | exact rcv | exact rdn | exact rdv | exact ran.set 0 _ | exact rbn.set 0 _ | exact rcn.set 0 _ | exact rdn.set 0 _ | exact RowIs.new _ _ _ | exact rowNew1 _ _ _ _ | exact rowNewS _ _ _ _ _ _ | refine rowSet1 ?_ | refine RowIs.keep ?_ (bAl (Below.refl _ _) _) | refine RowIs.setOther ?_ _ (by omega))); (first | done | fail)) ((unhide HR0).keep (by (repeat (first | exact unhide BW2 | refine Below.drew ?_ | refine bAl ?_ _ | refine Below.setCell ?_ (by first | omega | (simp; done) | (simp; omega) | (show _ ≤ _; omega)) _)); (first | done | fail))) ((unhide HVL).keep (by (repeat (first | exact unhide K12 | refine KeptR.alloc ?_ _ | refine KeptR.drew ?_ | refine KeptR.set ?_ _ _ _ (by first | omega | (left; simp; done) | (left; simp; omega) | (right; simp; done) | (right; simp; omega)))); (first | done | fail))) ((unhide HVR).keep (by (repeat (first | exact KeptR.refl _ _ | refine KeptR.alloc ?_ _ | refine KeptR.drew ?_ | refine KeptR.set ?_ _ _ _ (by first | omega | (left; simp; done) | (left; simp; omega) | (right; simp; done) | (right; simp; omega)))); (first | done | fail))) (by first | omega | (simp; done) | (simp; omega) | (show _ ≤ _; omega)) (by first | omega | (simp; done) | (simp; omega) | (show _ ≤ _; omega)) (Nat.le_refl _) (by omega) (by omega)⟩, bTr (unhide B0) (by (repeat (first | exact unhide BW2 | refine Below.drew ?_ | refine bAl ?_ _ | refine Below.setCell ?_ (by first | omega | (simp; done) | (simp; omega) | (show _ ≤ _; omega)) _)); (first | done | fail))⟩
end Go.Proofs.YtdflnjjomljgmaaGreatDoor.V
