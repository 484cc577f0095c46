/- What an event does to a recovery. -/
import Derived.Test.YtjmpakpodhbbpaaKWe
import Derived.Test.YtjmpakpodhbbpaaGBase
import Derived.Deep.RegionHeld3
namespace Go.Proofs.Ytjmpakpodhbbpaa
set_option linter.unusedSimpArgs false
set_option linter.unusedVariables false
set_option maxRecDepth 20000
open Go.RowKit Go.Maps


theorem rcNext_ask {x : RcT} {k t : Int} {s : ByteArray} (h : rcFault x k t s = 0) (hk : k = 1) : rcNext x k t s = { x with now := t, under := true, ready := t + x.delay, votes := [] } := by unfold rcNext; rw [if_neg (by simp [h]), if_pos hk]
theorem rcNext_vote {x : RcT} {k t : Int} {s : ByteArray} (h : rcFault x k t s = 0) (hk : k = 2) : rcNext x k t s = { x with now := t, votes := x.votes ++ [s] } := by unfold rcNext; rw [if_neg (by simp [h]), if_neg (by omega), if_pos hk]
theorem rcNext_else {x : RcT} {k t : Int} {s : ByteArray} (h : rcFault x k t s = 0) (h1 : ¬ k = 1) (h2 : ¬ k = 2) : rcNext x k t s = { x with now := t, under := false } := by unfold rcNext; rw [if_neg (by simp [h]), if_neg h1, if_neg h2]
theorem firstB_zero : ∀ {l : List Bool}, firstB l = 0 → ∀ b ∈ l, b = false
  | [], _, _, hb => by simp at hb
  | b :: l, h, c, hc => by
    unfold firstB at h
    have hl := firstB_le l
    cases b
    · simp only [Bool.false_eq_true, if_false] at h
      split at h
      · rename_i h0
        rcases List.mem_cons.1 hc with rfl | hc
        · rfl
        · exact firstB_zero h0 c hc
      · omega
    · simp at h
theorem rcFault_zero {x : RcT} {k t : Int} {s : ByteArray} (h : rcFault x k t s = 0) : (∀ i, i < 7 → rcB x k t s i = false) := by
  intro i hi
  have := firstB_zero h
  have hc : i = 0 ∨ i = 1 ∨ i = 2 ∨ i = 3 ∨ i = 4 ∨ i = 5 ∨ i = 6 := by omega
  rcases hc with rfl | rfl | rfl | rfl | rfl | rfl | rfl
  all_goals exact this _ (by simp)
def DoEnd (b : Nat) (m : Option Nat) (x' : RcT) (w w' : World) : Prop := (∃ m', RcAt w' b x' m' ∧ ∀ mb, m' = some mb → m = some mb ∨ w.heap.size ≤ mb) ∧ Tch b m w w'
theorem tch_alloc {b : Nat} {m : Option Nat} {w w' : World} {o : Obj} (h : Tch b m (w.alloc o) w') : Tch b m w w' := (Tch.of (bAl (Below.refl _ _) o)).trans h (fun mb e => .inl e)
theorem unf_time {x : RcT} {k t : Int} {s : ByteArray} (h : rcFault x k t s = 0) : 0 ≤ t ∧ t ≤ 100000000000 := by
  have := rcFault_zero h 0 (by omega)
  simp [rcB, unfE] at this
  omega
set_option maxHeartbeats 4000000 in
theorem do_any {b : Nat} {x : RcT} {m : Option Nat} (k t : Int) (s : ByteArray) (w : World) (h : RcAt w b x m) (hs : s.size ≤ maxLen) (hf : rcFault x k t s = 0) (hd : 0 ≤ x.delay ∧ x.delay ≤ 100000000000) (hn : x.votes.length < 1000) :
    Calls Try.prog 32 #[.pointer (some ⟨b, 0, none⟩), .agg #[.int .i64 k, .int .i64 t, .string s]] w fun e w' => e = .returned (.tuple #[]) ∧ DoEnd b m (rcNext x k t s) w w' := by
  have ht := unf_time hf
  have zb := h.box.lt
  obtain ⟨W1, hW1⟩ : ∃ W, W = w.setCell ⟨b, 3, none⟩ (.int .i64 t) := ⟨_, rfl⟩
  obtain ⟨W2, hW2⟩ : ∃ W, W = W1.alloc (.cells #[.int .i64 k, .int .i64 t, .string s] 31) := ⟨_, rfl⟩
  have z1 : W1.heap.size = w.heap.size := by rw [hW1]; simp [World.setCell]
  have b2 : Below W1.heap.size W1 W2 := by rw [hW2]; exact bAl (Below.refl _ _) _
  have R2 := hide (show RowIs W2 w.heap.size #[.int .i64 k, .int .i64 t, .string s] 31 by rw [hW2, ← z1]; exact RowIs.new _ _ _)
  have T2 := hide (show Tch b m w W2 from (show Tch b m w W1 by rw [hW1]; exact Tch.setB b m _ _ _).trans (Tch.of b2) (fun mb e => .inl e))
  have h1 : RcAt W1 b { x with now := t } m := by
    rw [hW1]
    exact ⟨h.box.set 3 _, slS_lo h.hs h.ap ((Below.refl b _).setCell (Nat.le_refl _) _), h.ap, h.hz, h.sz, h.nil, fun mb e => ⟨(h.map mb e).1.block (heap_setCell_other _ ⟨b, 3, none⟩ mb _ (Nat.ne_of_gt (h.map mb e).2)), (h.map mb e).2⟩⟩
  have h2 := hide (h1.keep b2)
  have z2 := hide (show W2.heap.size = w.heap.size + 1 by rw [hW2]; simp [z1])
  rw [hW1] at hW2
  have HW := hide hW2.symm
  have c3 := h.box.at (o := 3) (v := .int .i64 x.now) rfl
  have f3 := h.box.froz 3
  have HF := hide hf
  have HT := hide ht
  have HS := hide hs
  have HD := hide hd
  have HN := hide hn
  have HNO := hide (rcFault_zero hf)
  clear hW2 hW1 b2 h1 z1 hf hd hn hs ht
  have e0 := (unhide R2).at (o := 0) (v := .int .i64 k) rfl
  have ez := (unhide R2).lt
  go_enter Try.func32, Try.ntmps32
  go_upto_region 2 with fail
  rw [unhide HW]
  clear HW c3 f3
  by_cases hk : k = 1
  · have HE := hide (rcNext_ask (unhide HF) hk)
    subst hk
    have e1 := (unhide R2).at (o := 1) (v := .int .i64 t) rfl
    have c1 := (unhide h2).box.at (o := 1) (v := .int .i64 x.delay) rfl
    have c4 := (unhide h2).box.at (o := 4) (v := .bool x.under) rfl
    have c5 := (unhide h2).box.at (o := 5) (v := .int .i64 x.ready) rfl
    have c6 := (unhide h2).box.at (o := 6) (v := .map m) rfl
    have f4 := (unhide h2).box.froz 4
    have f5 := (unhide h2).box.froz 5
    have f6 := (unhide h2).box.froz 6
    have z4 := (unhide h2).box.lt
    have hmm := @run_makeMap Try.prog
    have hst := @run_store Try.prog
    have hw : wrap64 (t + x.delay) = t + x.delay := Go.IntWalk.wrap64_in _ (by have := unhide HT; have := unhide HD; omega)
    go_upto_region 5 with fail
    go_region
    rw [hw]
    obtain ⟨W5, hW5⟩ : ∃ W, W = ((W2.setCell ⟨b, 4, none⟩ (.bool true)).setCell ⟨b, 5, none⟩ (.int .i64 (t + x.delay))).setCell ⟨b, 6, none⟩ (.map (some W2.heap.size)) := ⟨_, rfl⟩
    have T5 : Tch b m w W5 := by
      rw [hW5]
      exact (((unhide T2).trans (Tch.setB b m _ _ _) (fun mb e => .inl e)).trans (Tch.setB b m _ _ _) (fun mb e => .inl e)).trans (Tch.setB b m _ _ _) (fun mb e => .inl e)
    have R5 : RowIs W5 b #[.int .i64 x.need, .int .i64 x.delay, .slice x.ha x.hl x.hc, .int .i64 t, .bool true, .int .i64 (t + x.delay), .map (some W2.heap.size)] 47 := by
      rw [hW5]
      exact (((unhide h2).box.set 4 _).set 5 _).set 6 _
    have S5 : V.SlS W5 x.ha x.hl x.H := by
      rw [hW5]
      exact slS_lo (unhide h2).hs (unhide h2).ap ((((Below.refl b _).setCell (Nat.le_refl _) _).setCell (Nat.le_refl _) _).setCell (Nat.le_refl _) _)
    have z5 : W5.heap.size = W2.heap.size := by rw [hW5]; simp [World.setCell]
    have V5 := VM.made W5
    rw [z5] at V5
    have b6 : Below W5.heap.size W5 (W5.alloc (.map #[] 0)).drew := (bAl (Below.refl _ _) _).drew
    have b7 : Below (W5.alloc (.map #[] 0)).heap.size (W5.alloc (.map #[] 0)) (W5.alloc (.map #[] 0)).drew := (Below.refl _ _).drew
    have HH := hide (show DoEnd b m { x with now := t, under := true, ready := t + x.delay, votes := [] } w (W5.alloc (.map #[] 0)).drew from
      ⟨⟨some W2.heap.size, ⟨R5.keep b6, S5.keep b6, (unhide h2).ap, (unhide h2).hz, fun s hs => by simp at hs, (fun e => by cases e), fun mb e => by cases e; exact ⟨V5.keep b7, by omega⟩⟩, fun mb e => by cases e; right; have := unhide z2; omega⟩, T5.trans (Tch.of b6) (fun mb e => .inl e)⟩)
    rw [← hW5]
    clear hW5 T5 R5 S5 z5 V5 b6 b7 e1 c1 c4 c5 c6 f4 f5 f6 hmm hst hw
    go_wp2_with fail
    go_end0
    rw [unhide HE]
    exact ⟨rfl, unhide HH⟩
  by_cases hk2 : k = 2
  · have HE := hide (rcNext_vote (unhide HF) hk2)
    subst hk2
    obtain ⟨mb, rfl⟩ : ∃ mb, m = some mb := by
      cases m with
      | some mb => exact ⟨mb, rfl⟩
      | none =>
        have h3 := unhide HNO 2 (by omega)
        simp [rcB, (h.nil rfl).2] at h3
    have hno : memB x.votes s = false := by
      have h3 := unhide HNO 4 (by omega)
      simpa [rcB] using h3
    have e2 := (unhide R2).at (o := 2) (v := .string s) rfl
    have c6 := (unhide h2).box.at (o := 6) (v := .map (some mb)) rfl
    have z4 := (unhide h2).box.lt
    have BD := hide ((Below.refl W2.heap.size W2).drew)
    have qa := hide (addV_any mb x.votes s W2.drew (((unhide h2).map mb rfl).1.keep (unhide BD)) (unhide HN) (unhide HS) hno)
    go_upto_region 7 with fail
    go_region_held3 (fun Z => Z.cell? ⟨b, 6, none⟩ = some (.map (some mb)) ∧ Z.cell? ⟨w.heap.size, 2, none⟩ = some (.string s))
      (first
        | exact ⟨(((unhide h2).keep (unhide BD)).box.at rfl), (((unhide R2).keep (unhide BD)).at rfl)⟩
        | exact ⟨(row_grown ((unhide h2).keep (unhide BD)).box (unhide HG3) (unhide HNE)).at rfl, (row_grown ((unhide R2).keep (unhide BD)) (unhide HG3) (unhide HNF)).at rfl⟩)
      (first
        | (go_at_call 46; (with_reducible refine (unhide qa).mono ?_); rintro e w3 ⟨rfl, hv3, hg3⟩; have HG3 := hide hg3; have HV3 := hide hv3; have HNE := hide (show some b ≠ some mb from fun e => by have := ((unhide h2).map mb rfl).2; cases e; omega); have HNF := hide (show some w.heap.size ≠ some mb from fun e => ((((unhide h2).map mb rfl).1).noCells (unhide R2)) (by cases e; rfl)); clear hv3 hg3))
    go_wp2_with fail
    go_end0
    rw [unhide HE]
    have bd := unhide BD
    have h3 := (unhide h2).keep bd
    have g3 := unhide HG3
    refine ⟨rfl, ⟨some mb, ⟨row_grown h3.box g3 (unhide HNE), slS_lo h3.hs h3.ap ⟨g3.os, g3.tape, g3.output, g3.size, fun g hg => g3.block g (by have := h3.box.lt; omega) (fun e => by have := (h3.map mb rfl).2; cases e; omega)⟩, h3.ap, h3.hz, fun y hy => ?_, (fun e => by cases e), fun mb' e => by cases e; exact ⟨unhide HV3, ((unhide h2).map mb rfl).2⟩⟩, fun mb e => .inl e⟩, (unhide T2).trans ((Tch.of bd).trans (Tch.grown g3) (fun mb e => .inl e)) (fun mb e => .inl e)⟩
    rcases List.mem_append.1 hy with h4 | h4
    · exact (unhide h2).sz y h4
    · rw [List.mem_singleton.1 h4]; exact unhide HS
  · have HE := hide (rcNext_else (unhide HF) hk hk2)
    have c4 := (unhide h2).box.at (o := 4) (v := .bool x.under) rfl
    have f4 := (unhide h2).box.froz 4
    have z4 := (unhide h2).box.lt
    go_wp2_with fail
    go_end0
    rw [unhide HE]
    refine ⟨rfl, ⟨m, ⟨(unhide h2).box.set 4 _, slS_lo (unhide h2).hs (unhide h2).ap ((Below.refl b _).setCell (Nat.le_refl _) _), (unhide h2).ap, (unhide h2).hz, (unhide h2).sz, fun e => ⟨((unhide h2).nil e).1, rfl⟩, fun mb e => ⟨((unhide h2).map mb e).1.block (heap_setCell_other _ ⟨b, 4, none⟩ mb _ (Nat.ne_of_gt ((unhide h2).map mb e).2)), ((unhide h2).map mb e).2⟩⟩, fun mb e => .inl e⟩, (unhide T2).trans (Tch.setB b m _ _ _) (fun mb e => .inl e)⟩
end Go.Proofs.Ytjmpakpodhbbpaa
