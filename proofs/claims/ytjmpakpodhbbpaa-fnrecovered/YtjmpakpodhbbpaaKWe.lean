/- An event of a recovery. -/
import Derived.Test.YtjmpakpodhbbpaaKWd
import Derived.Deep.RegionHeld3
namespace Go.Proofs.Ytjmpakpodhbbpaa
set_option linter.unusedSimpArgs false
set_option linter.unusedVariables false
set_option maxRecDepth 20000
open Go.RowKit Go.Maps


/-- All but the box, the votes' map and what is new is as it was. -/
structure Tch (b : Nat) (m : Option Nat) (w w' : World) : Prop where
  os : w'.os = w.os
  tape : w'.tape = w.tape
  output : w'.output = w.output
  size : w.heap.size ≤ w'.heap.size
  block : ∀ g, g < w.heap.size → g ≠ b → some g ≠ m → w'.heap[g]? = w.heap[g]?
theorem Tch.refl (b : Nat) (m : Option Nat) (w : World) : Tch b m w w := ⟨rfl, rfl, rfl, Nat.le_refl _, fun _ _ _ _ => rfl⟩
theorem Tch.trans {b : Nat} {m m' : Option Nat} {w w1 w2 : World} (h : Tch b m w w1) (k : Tch b m' w1 w2) (hm : ∀ mb, m' = some mb → m = some mb ∨ w.heap.size ≤ mb) : Tch b m w w2 :=
  ⟨k.os.trans h.os, k.tape.trans h.tape, k.output.trans h.output, Nat.le_trans h.size k.size, fun g hg h1 h2 => by
    rw [k.block g (Nat.lt_of_lt_of_le hg h.size) h1 (fun e => by
      rcases hm g e.symm with h3 | h3
      · exact h2 h3.symm
      · omega)]
    exact h.block g hg h1 h2⟩
theorem Tch.below {b : Nat} {m : Option Nat} {w w' : World} {B : Nat} (h : Tch b m w w') (hB : B ≤ w.heap.size) (hb : B ≤ b) (hm : ∀ mb, m = some mb → B ≤ mb) : Below B w w' :=
  ⟨h.os, h.tape, h.output, h.size, fun g hg => h.block g (by omega) (by omega) (fun e => by have := hm g e.symm; omega)⟩
theorem Tch.of {b : Nat} {m : Option Nat} {w w' : World} (h : Below w.heap.size w w') : Tch b m w w' := ⟨h.os, h.tape, h.output, h.size, fun g hg _ _ => h.block g hg⟩
theorem Tch.setB (b : Nat) (m : Option Nat) (w : World) (o : Nat) (v : Value) : Tch b m w (w.setCell ⟨b, o, none⟩ v) :=
  ⟨rfl, rfl, rfl, by simp [World.setCell], fun g hg h1 _ => heap_setCell_other w ⟨b, o, none⟩ g v h1⟩
theorem Tch.grown {b mb : Nat} {w w' : World} (h : w.grownBy w' (some mb)) : Tch b (some mb) w w' := ⟨h.os, h.tape, h.output, h.size, fun g hg _ h2 => h.block g hg h2⟩
theorem VM.noCells {w : World} {mb b : Nat} {l : List ByteArray} {C : Array Value} {T : TypeId} (h : VM w mb l) (hr : RowIs w b C T) : mb ≠ b := by
  rintro rfl
  obtain ⟨D, ⟨es, cl, h1, _⟩, _⟩ := h
  unfold RowIs at hr
  rw [hr] at h1
  cases h1
open Classical in
theorem chV_put (l : List ByteArray) (x : ByteArray) : chV (l ++ [x]) = updK (chV l) x (.agg #[]) := by
  funext y
  unfold chV updK
  by_cases h : y = x
  · rw [if_pos h, if_pos (by rw [memB_iff, h]; simp)]
  · rw [if_neg h]
    by_cases h2 : y ∈ l
    · rw [if_pos (by rw [memB_iff]; simp [h2])]
      exact (if_pos (memB_iff.2 h2)).symm
    · rw [if_neg (by rw [memB_iff]; simp [h, h2])]
      exact (if_neg (fun g => h2 (memB_iff.1 g))).symm
open Classical in
set_option maxHeartbeats 1000000 in
theorem addV_any (b : Nat) (l : List ByteArray) (x : ByteArray) (w : World) (hm : VM w b l) (hn : l.length < 1000) (hx : x.size ≤ maxLen) (hno : memB l x = false) :
    Calls Try.prog 46 #[.map (some b), .string x] w fun e w' => e = .returned (.tuple #[]) ∧ VM w' b (l ++ [x]) ∧ w.grownBy w' (some b) := by
  obtain ⟨D, hown, hD, hs⟩ := hm
  obtain ⟨kl, hkl⟩ := kStr.key (P := Try.prog) x hx
  have HO := hide hown
  have HD := hide hD
  have HS := hide hs
  have HN := hide hno
  have hn' : l.length < maxLen := by unfold maxLen; omega
  clear hown hD hs hno
  go_enter Try.func46, Try.ntmps46
  go_wp2_with (at_mapUpdate; refine wpList_mapUpdate_in _ rfl _ _ _ _ rfl 9 _ kStr.law Try.underlying45 hvR b l.length D rfl (unhide HO) hn' (.string x) (.agg #[]) kl rfl rfl hkl (.held (.agg #[])) [] rfl ?_; intro w1 h1 h2)
  go_end0
  refine ⟨rfl, ⟨_, by simpa using h1, fun y kl' hk' => ?_, ?_⟩, h2.grown⟩
  · rw [chV_put]
    by_cases e : y = x
    · subst e
      obtain rfl : kl' = kl := by rw [hkl] at hk'; exact (Option.some.inj hk').symm
      have hu : updK (chV l) y (.agg #[]) y = some (.agg #[]) := by simp [updK]
      rw [hu]
      refine ⟨Maps.has_put_same (unhide HO).isMap (kStr.law.key hkl) _, fun c' hc' z => ?_⟩
      cases hc'
      exact Maps.atKey_put_same (unhide HO).isMap (kStr.law.key hkl) _ z
    · have hne : kl' ≠ kl := fun e2 => e (kStr.inj (P := Try.prog) _ _ (kStr.law.inj hk' (by rw [e2]; exact hkl)))
      have hu : updK (chV l) x (.agg #[]) y = chV l y := by simp [updK, e]
      rw [hu, Maps.has_put_other hne]
      refine ⟨((unhide HD) y kl' hk').1, fun c' hc' z => ?_⟩
      rw [Maps.atKey_put_other hne]
      exact ((unhide HD) y kl' hk').2 c' hc' z
  · have hh : Maps.has D kl = false := by rw [((unhide HD) x kl hkl).1, chV, if_neg (by rw [unhide HN]; simp)]; rfl
    rw [Maps.size_put ((unhide HO).tidy kStr.law), hh, unhide HS]
    simp
set_option maxHeartbeats 2000000 in
theorem broken_any {b : Nat} {x : RcT} {m : Option Nat} (k t : Int) (s : ByteArray) (g : Nat) (w : World) (h : RcAt w b x m) (hs : s.size ≤ maxLen) (hr : RowIs w g (rulesV b) 67) :
    Calls Try.prog 24 #[.agg #[.int .i64 k, .int .i64 t, .string s], .slice (some ⟨g, 0, none⟩) 7 7] w fun e w' => e = .returned (.int .i64 (rcFault x k t s)) ∧ Below w.heap.size w w' := by
  obtain ⟨W2, hW2⟩ : ∃ W, W = w.alloc (.cells #[.int .i64 k, .int .i64 t, .string s] 31) := ⟨_, rfl⟩
  have b2 : Below w.heap.size w W2 := by rw [hW2]; exact bAl (Below.refl _ _) _
  have R2 := show RowIs W2 w.heap.size #[.int .i64 k, .int .i64 t, .string s] 31 by rw [hW2]; exact RowIs.new _ _ _
  have h2 := h.keep b2
  have q := hide (idx_any (rulesV b) 7 rfl (by omega) (rcB x k t s) g w.heap.size W2 (hr.keep b2) (fun i hi hj w' hw => by
    have hc := R2.keep hw
    have hx := h2.keep hw
    have h7 : i < 7 := hi
    match i, h7, hj with
    | 0, _, _ => exact fc_isUnfitEvent k t s _ _ w' hc (unfit_any k t s w')
    | 1, _, _ => exact fc_isPast k t s b _ _ w' hc (isPast_any k t s w' hx)
    | 2, _, _ => exact fc_isOutOfPlace k t s b _ _ w' hc (isOutOfPlace_any k t s w' hx)
    | 3, _, _ => exact fc_isOfStranger k t s b _ _ w' hc (isOfStranger_any k t s w' hx)
    | 4, _, hj => exact fc_isSecondVote k t s b _ _ w' hc (isSecondVote_any k t s w' hx hs (fun hk hm => by
        have h3 := hj 2 (by omega)
        simp [rcB, hk, (hx.nil hm).2] at h3))
    | 5, _, _ => exact fc_lacksVotes k t s b _ _ w' hc (lacksVotes_any k t s w' hx)
    | 6, _, _ => exact fc_isEarly k t s b _ _ w' hc (isEarly_any k t s w' hx)))
  have HB := hide b2
  have HW := hide hW2.symm
  clear hW2 R2 h2 h hr b2
  go_enter Try.func24, Try.ntmps24
  go_upto_region 1 with fail
  rw [unhide HW]
  go_wp2_with (go_at_call 42; refine (unhide q).mono ?_; rintro e w2 ⟨⟨r, rfl, hr⟩, hb2⟩; have HR := hide hr.fault; clear hr)
  go_ret
  exact ⟨congrArg (fun z => Ending.returned (.int .i64 z)) (by rw [← unhide HR]; have h := rcFault_le x k t s; exact Go.IntWalk.wrap64_in _ (by have := unhide HR; omega)), bTr (unhide HB) hb2⟩
end Go.Proofs.Ytjmpakpodhbbpaa
