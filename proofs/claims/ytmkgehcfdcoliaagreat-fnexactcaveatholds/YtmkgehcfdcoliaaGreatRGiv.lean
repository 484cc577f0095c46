/- impl.givenAtomsOf. -/
import Derived.Test.YtmkgehcfdcoliaaGreatRCon
import Derived.Test.YtmkgehcfdcoliaaGreatRTh
import Derived.Test.YtmkgehcfdcoliaaGreatRImC
namespace Go.Proofs.YtmkgehcfdcoliaaGreat.V
open Go.RowKit Go.Maps

theorem RisN.lt {l : List ByteArray} (h : RisN l l.length) : ∀ (d i : Nat) (hj : i + d + 1 < l.length), cmpT (l[i]'(by omega)).data.toList (l[i + d + 1]).data.toList < 0
  | 0, i, hj => by have := h (i + 1) (by omega) (by omega) (by omega); simpa using this
  | d + 1, i, hj => by
    have h1 := RisN.lt h d i (by omega)
    have h2 := h (i + (d + 1) + 1) (by omega) (by omega) (by omega)
    have h3 : cmpT (l[i + d + 1]'(by omega)).data.toList (l[i + (d + 1) + 1]'hj).data.toList < 0 := h2
    exact cmpT_trans h1 h3
theorem RisN.ne {l : List ByteArray} (h : RisN l l.length) {i j : Nat} (hi : i < l.length) (hj : j < l.length) (e : l[i] = l[j]) : i = j := by
  rcases Nat.lt_trichotomy i j with g | g | g
  · obtain ⟨d, rfl⟩ : ∃ d, j = i + d + 1 := ⟨j - i - 1, by omega⟩
    have := h.lt d i hj
    rw [e, cmpT_self] at this; omega
  · exact g
  · obtain ⟨d, rfl⟩ : ∃ d, i = j + d + 1 := ⟨i - j - 1, by omega⟩
    have := h.lt d j hi
    rw [← e, cmpT_self] at this; omega

/-- The map of the first k names. -/
def aMap (ns : List ByteArray) (xs : List AtomT) : Nat → ByteArray → Option Value
  | 0 => fun _ => none
  | k + 1 => updK (aMap ns xs k) (ns.getD k empB) (atomV (xs.getD k zA))
theorem aMap_step {ns : List ByteArray} {xs : List AtomT} {k : Nat} (h1 : k < ns.length) (h2 : k < xs.length) : updK (aMap ns xs k) ns[k] (atomV xs[k]) = aMap ns xs (k + 1) := by
  rw [aMap]; simp [h1, h2]
theorem aMap_notin {ns : List ByteArray} {xs : List AtomT} {k : Nat} {s : ByteArray} (hk : k ≤ ns.length) (h : ∀ i (hi : i < ns.length), i < k → ns[i] ≠ s) : aMap ns xs k s = none := by
  induction k with
  | zero => rfl
  | succ k ih =>
    rw [aMap]
    have h0 := h k (by omega) (by omega)
    have h1 : ns.getD k empB = ns[k]'(by omega) := by simp [show k < ns.length by omega]
    rw [h1]
    simp only [updK]
    rw [if_neg (Ne.symm h0)]
    exact ih (by omega) (fun i hi hik => h i hi (by omega))
theorem aMap_at {ns : List ByteArray} {xs : List AtomT} (hd : ∀ i j (hi : i < ns.length) (hj : j < ns.length), ns[i] = ns[j] → i = j) {k j : Nat} (hk : k ≤ ns.length) (hx : k ≤ xs.length) (hj : j < k) : aMap ns xs k (ns[j]'(by omega)) = some (atomV (xs[j]'(by omega))) := by
  induction k with
  | zero => omega
  | succ k ih =>
    rw [aMap]
    have h1 : ns.getD k empB = ns[k]'(by omega) := by simp [show k < ns.length by omega]
    have h2 : xs.getD k zA = xs[k]'(by omega) := by simp [show k < xs.length by omega]
    rw [h1, h2]
    simp only [updK]
    by_cases e : j = k
    · subst e; rw [if_pos rfl]
    · rw [if_neg (fun e2 => e (hd _ _ _ _ e2))]
      exact ih (by omega) (by omega) (by omega)
theorem aMap_all {v : ValT} (hr : Rec v) : aMap v.names v.items v.names.length = gM (gOf v) := by
  obtain ⟨_, _, hn, _, hris⟩ := hr.parts
  funext s
  unfold gM gOf
  by_cases h : ∃ j, ∃ hj : j < v.names.length, v.names[j] = s
  · -- the first one
    obtain ⟨j, hj, rfl⟩ := h
    rw [aMap_at (fun i j hi hj e => hris.ne hi hj e) (Nat.le_refl _) (by omega) hj]
    rw [fldA_at hj (by omega) (fun i hi hij e => by have := hris.ne hi hj e; omega) rfl]
    rfl
  · have hno : ∀ i (hi : i < v.names.length), v.names[i] ≠ s := fun i hi e => h ⟨i, hi, e⟩
    rw [aMap_notin (Nat.le_refl _) (fun i hi _ => hno i hi), fldA_none hno]
    rfl

set_option maxRecDepth 20000 in
set_option maxHeartbeats 1000000 in
theorem givenAtomsOf_any (v : ValT) (hv : v.Ok) (hr : Rec v) (a1 a2 : Option Addr) (l1 c1 l2 c2 : Nat) (w : World) (hs1 : SlA w a1 l1 v.items) (hs2 : SlS w a2 l2 v.names) :
    Calls Tryz.prog 28 #[vAgg v a1 l1 c1 a2 l2 c2] w fun e w' => (∃ b n, e = .returned (.map (some b)) ∧ KMs w' b n (gM (gOf v))) ∧ Below w.heap.size w w' := by
  obtain ⟨h50, _, hnl, _, _⟩ := hr.parts
  have HA := hide (aMap_all hr)
  have HS1 := hide hs1
  have HS2 := hide hs2
  have L1 := hide hs1.1
  have L2 := hide hs2.1
  have HE := hide hnl
  have HN := hide hv.names
  have h5 : l2 ≤ 50 := by rw [hs2.1, hnl]; exact h50
  obtain ⟨W1, hW1⟩ : ∃ W, W = w.alloc (.cells #[.int .i64 v.k, .int .i64 v.a.x, .int .i64 v.a.n, .string v.a.t, .string v.a.y, .slice a1 l1 c1, .slice a2 l2 c2] 43) := ⟨_, rfl⟩
  obtain ⟨W2, hW2⟩ : ∃ W, W = W1.alloc (.map #[] 0) := ⟨_, rfl⟩
  have z1 : W1.heap.size = w.heap.size + 1 := by rw [hW1]; simp
  have b1 : Below w.heap.size w W1 := by rw [hW1]; exact bAl (Below.refl _ _) _
  have b2 : Below W1.heap.size W1 W2 := by rw [hW2]; exact bAl (Below.refl _ _) _
  have V2 := hide ((show RowIs W1 w.heap.size #[.int .i64 v.k, .int .i64 v.a.x, .int .i64 v.a.n, .string v.a.t, .string v.a.y, .slice a1 l1 c1, .slice a2 l2 c2] 43 by rw [hW1]; exact RowIs.new _ _ _).keep b2)
  have M2 : Hid (KMs W2 (w.heap.size + 1) 0 (aMap v.names v.items 0)) := hide (by rw [hW2, ← z1]; exact KM.made _ _ _ _)
  have B2 := hide (bTr b1 b2)
  have HW2 := hide (show (w.alloc (.cells #[.int .i64 v.k, .int .i64 v.a.x, .int .i64 v.a.n, .string v.a.t, .string v.a.y, .slice a1 l1 c1, .slice a2 l2 c2] 43)).alloc (.map #[] 0) = W2 by rw [hW2, hW1])
  have hmm := @run_makeMap Tryz.prog
  clear hs1 hs2 hr hv h50 hnl hW1 hW2 z1 b1 b2
  go_enter Tryz.func28, Tryz.ntmps28
  go_wp2_with fail
  rw [unhide HW2]
  clear HW2 hmm
  go_loopw [10] (fun i w' => ∃ k : Nat, k ≤ l2 ∧ i = .int .i64 k ∧ Hid (Below w.heap.size w w') ∧ Hid (RowIs w' w.heap.size #[.int .i64 v.k, .int .i64 v.a.x, .int .i64 v.a.n, .string v.a.t, .string v.a.y, .slice a1 l1 c1, .slice a2 l2 c2] 43) ∧ Hid (KMs w' (w.heap.size + 1) k (aMap v.names v.items k))) (fun i _ => l2 - (Go.RowKit.intOf i).toNat)
  case atStart => exact ⟨0, Nat.zero_le _, rfl, B2, V2, M2⟩
  case round =>
    clear B2 V2 M2
    obtain ⟨k, hk, rfl, hb, hv, hM⟩ := hrel
    have zv := (unhide hv).lt
    by_cases hlt : k < l2
    · have hk' : k < v.names.length := by rw [← unhide L2]; exact hlt
      have hk2 : k < v.items.length := by rw [← unhide HE]; exact hk'
      have hk3 : k < l1 := by rw [unhide L1]; exact hk2
      obtain ⟨b, off, rfl, hrow⟩ := ((unhide HS2).keep (unhide hb)).at hlt
      obtain ⟨b', off', rfl, hrow'⟩ := ((unhide HS1).keep (unhide hb)).at hk3
      have c0 := hrow.c k hk'
      have zk := hrow.z
      have i0 := (hrow'.c k hk2).c0
      have i1 := (hrow'.c k hk2).c1
      have i2 := (hrow'.c k hk2).c2
      have i3 := (hrow'.c k hk2).c3
      have zi := hrow'.z
      have v5 := (unhide hv).at (o := 5) (v := .slice (some ⟨b', off', none⟩) l1 c1) rfl
      have o0 := unhide HN _ (List.getElem_mem hk')
      have eu := hide (aMap_step (ns := v.names) (xs := v.items) hk' hk2)
      have k0 : (0 : Int) ≤ (k : Int) := by omega
      have k3 : (k : Int) < (l1 : Int) := by omega
      have hkm : k < maxLen := by unfold maxLen; omega
      clear hrow hrow'
      generalize v.items[k] = A at *
      generalize v.names[k] = S at *
      go_wp2_with (at_mapUpdate; refine wpList_put_km _ kStr rfl _ _ _ _ rfl _ Tryz.underlying64 (w.heap.size + 1) k _ rfl (unhide hM) hkm S (atomV A) rfl rfl o0 ?_; intro w6 h1 h2 h3)
      rw [unhide eu] at h1
      exact ⟨⟨k + 1, by omega, by go_num, hide ((unhide hb).grown h2 (unhide hb).size (fun j h => by cases h; omega)), hide (rowGrown (unhide hv) h2 (by simp)), hide h1⟩, by simp [Go.RowKit.intOf]; omega⟩
    · have ek : k = l2 := by omega
      subst ek
      have MM : Hid (KMs wr (w.heap.size + 1) k (gM (gOf v))) := hide (by rw [← unhide HA, ← unhide L2]; exact unhide hM)
      go_wp2_with fail
      go_ret
      exact ⟨⟨_, _, rfl, unhide MM⟩, unhide hb⟩
end Go.Proofs.YtmkgehcfdcoliaaGreat.V
