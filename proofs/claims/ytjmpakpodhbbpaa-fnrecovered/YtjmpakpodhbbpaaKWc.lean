/- The rules of a recovery. -/
import Derived.Test.YtjmpakpodhbbpaaKWb
import Derived.BigQuiet
namespace Go.Proofs.Ytjmpakpodhbbpaa
set_option linter.unusedSimpArgs false
set_option linter.unusedVariables false
set_option maxRecDepth 20000
open Go.RowKit Go.Maps


set_option maxHeartbeats 1000000 in
theorem hasV_any (b : Nat) (l : List ByteArray) (x : ByteArray) (w : World) (hx : x.size ≤ maxLen) (hk : VM w b l) :
    Calls Try.prog 45 #[.map (some b), .string x] w fun r w' => r = .returned (.bool (memB l x)) ∧ Below w.heap.size w w' := by
  have HK := hide hk.km
  have er : Hid ((chV l x).isSome = memB l x) := hide (by unfold chV; cases memB l x <;> rfl)
  have ev : Hid ((chV l x).getD (.agg #[]) = .agg #[]) := hide (by unfold chV; split <;> rfl)
  generalize hM : chV l = M at HK er ev
  have hz : ∀ w, (zeroValue 73).run Try.prog w = .ok (.agg #[]) w := fun w => by kernel_rfl
  clear hk hM
  go_enter Try.func45, Try.ntmps45
  go_wp2_with (at_lookup; refine wpList_look_km _ kStr rfl _ _ _ rfl _ Try.underlying45 (hz _) b l.length _ rfl (unhide HK) x rfl hx _ _ (unhide ev) (unhide er) ?_)
  go_ret
  exact ⟨rfl, bAl (Below.refl _ _) _⟩
theorem nn_not (k c : Int) (h : ¬ k = c) : (k == c) = false := by simpa using h
theorem nn_yes {k c : Int} (h : k = c) : (k == c) = true := by simpa using h
set_option maxHeartbeats 2000000 in
theorem isPast_any {b : Nat} {x : RcT} {m : Option Nat} (k t : Int) (s : ByteArray) (w : World) (h : RcAt w b x m) :
    Calls Try.prog 26 #[.pointer (some ⟨b, 0, none⟩), .agg #[.int .i64 k, .int .i64 t, .string s]] w fun e w' => Said e (rcB x k t s 1) w w' := by
  obtain ⟨W2, hW2⟩ : ∃ W, W = w.alloc (.cells #[.int .i64 k, .int .i64 t, .string s] 31) := ⟨_, rfl⟩
  have b2 : Below w.heap.size w W2 := by rw [hW2]; exact bAl (Below.refl _ _) _
  have R2 := show RowIs W2 w.heap.size #[.int .i64 k, .int .i64 t, .string s] 31 by rw [hW2]; exact RowIs.new _ _ _
  have h2 := h.keep b2
  have HB := hide b2
  have HW := hide hW2.symm
  have ne : Nonempty (Kept W2) := ⟨⟨W2, Below.refl _ _⟩⟩
  have e0 := kept_cell R2.lt (R2.at (o := 0) (v := .int .i64 k) rfl)
  have e1 := kept_cell R2.lt (R2.at (o := 1) (v := .int .i64 t) rfl)
  have e2 := kept_cell R2.lt (R2.at (o := 2) (v := .string s) rfl)
  have c0 := kept_cell h2.box.lt (h2.box.at (o := 0) (v := .int .i64 x.need) rfl)
  have c1 := kept_cell h2.box.lt (h2.box.at (o := 1) (v := .int .i64 x.delay) rfl)
  have c2 := kept_cell h2.box.lt (h2.box.at (o := 2) (v := .slice x.ha x.hl x.hc) rfl)
  have c3 := kept_cell h2.box.lt (h2.box.at (o := 3) (v := .int .i64 x.now) rfl)
  have c4 := kept_cell h2.box.lt (h2.box.at (o := 4) (v := .bool x.under) rfl)
  have c5 := kept_cell h2.box.lt (h2.box.at (o := 5) (v := .int .i64 x.ready) rfl)
  have c6 := kept_cell h2.box.lt (h2.box.at (o := 6) (v := .map m) rfl)
  clear hW2 R2 h2 h b2
  go_enter Try.func26, Try.ntmps26
  go_upto_region 1 with fail
  rw [unhide HW]
  refine wp_region_kept (by kernel_rfl) (by kernel_rfl) ?_
  repeat (first
    | go_big_quiet_step ((fail))
    | quiet_step ((fail)))
  refine wpQuiet_nil ?_
  rintro _ ⟨q, rfl⟩
  go_wp2_with fail
  go_ret
  exact ⟨congrArg (fun b => Ending.returned (.bool b)) (by simp [rcB]), bTr (unhide HB) q.h⟩
set_option maxHeartbeats 2000000 in
theorem isOutOfPlace_any {b : Nat} {x : RcT} {m : Option Nat} (k t : Int) (s : ByteArray) (w : World) (h : RcAt w b x m) :
    Calls Try.prog 27 #[.pointer (some ⟨b, 0, none⟩), .agg #[.int .i64 k, .int .i64 t, .string s]] w fun e w' => Said e (rcB x k t s 2) w w' := by
  obtain ⟨W2, hW2⟩ : ∃ W, W = w.alloc (.cells #[.int .i64 k, .int .i64 t, .string s] 31) := ⟨_, rfl⟩
  have b2 : Below w.heap.size w W2 := by rw [hW2]; exact bAl (Below.refl _ _) _
  have R2 := show RowIs W2 w.heap.size #[.int .i64 k, .int .i64 t, .string s] 31 by rw [hW2]; exact RowIs.new _ _ _
  have h2 := h.keep b2
  have HB := hide b2
  have HW := hide hW2.symm
  have ne : Nonempty (Kept W2) := ⟨⟨W2, Below.refl _ _⟩⟩
  have e0 := kept_cell R2.lt (R2.at (o := 0) (v := .int .i64 k) rfl)
  have e1 := kept_cell R2.lt (R2.at (o := 1) (v := .int .i64 t) rfl)
  have e2 := kept_cell R2.lt (R2.at (o := 2) (v := .string s) rfl)
  have c0 := kept_cell h2.box.lt (h2.box.at (o := 0) (v := .int .i64 x.need) rfl)
  have c1 := kept_cell h2.box.lt (h2.box.at (o := 1) (v := .int .i64 x.delay) rfl)
  have c2 := kept_cell h2.box.lt (h2.box.at (o := 2) (v := .slice x.ha x.hl x.hc) rfl)
  have c3 := kept_cell h2.box.lt (h2.box.at (o := 3) (v := .int .i64 x.now) rfl)
  have c4 := kept_cell h2.box.lt (h2.box.at (o := 4) (v := .bool x.under) rfl)
  have c5 := kept_cell h2.box.lt (h2.box.at (o := 5) (v := .int .i64 x.ready) rfl)
  have c6 := kept_cell h2.box.lt (h2.box.at (o := 6) (v := .map m) rfl)
  clear hW2 R2 h2 h b2
  cases hu : x.under
  all_goals
    rw [hu] at c4
    by_cases hk : k = 1
    · subst hk
      go_enter Try.func27, Try.ntmps27
      go_upto_region 1 with fail
      rw [unhide HW]
      refine wp_region_kept (by kernel_rfl) (by kernel_rfl) ?_
      repeat (first
        | go_big_quiet_step ((fail))
        | quiet_step ((fail)))
      refine wpQuiet_nil ?_
      rintro _ ⟨q, rfl⟩
      go_wp2_with fail
      go_ret
      exact ⟨congrArg (fun b => Ending.returned (.bool b)) (by simp [rcB, hu]), bTr (unhide HB) q.h⟩
    · have h1 := nn_not k 1 hk
      go_enter Try.func27, Try.ntmps27
      go_upto_region 1 with fail
      rw [unhide HW]
      refine wp_region_kept (by kernel_rfl) (by kernel_rfl) ?_
      repeat (first
        | go_big_quiet_step ((fail))
        | quiet_step ((fail)))
      refine wpQuiet_nil ?_
      rintro _ ⟨q, rfl⟩
      go_wp2_with fail
      go_ret
      exact ⟨congrArg (fun b => Ending.returned (.bool b)) (by simp [rcB, hu, hk]), bTr (unhide HB) q.h⟩
set_option maxHeartbeats 2000000 in
theorem isOfStranger_any {b : Nat} {x : RcT} {m : Option Nat} (k t : Int) (s : ByteArray) (w : World) (h : RcAt w b x m) :
    Calls Try.prog 28 #[.pointer (some ⟨b, 0, none⟩), .agg #[.int .i64 k, .int .i64 t, .string s]] w fun e w' => Said e (rcB x k t s 3) w w' := by
  obtain ⟨W2, hW2⟩ : ∃ W, W = w.alloc (.cells #[.int .i64 k, .int .i64 t, .string s] 31) := ⟨_, rfl⟩
  have b2 : Below w.heap.size w W2 := by rw [hW2]; exact bAl (Below.refl _ _) _
  have R2 := show RowIs W2 w.heap.size #[.int .i64 k, .int .i64 t, .string s] 31 by rw [hW2]; exact RowIs.new _ _ _
  have h2 := h.keep b2
  have HB := hide b2
  have HW := hide hW2.symm
  have ne : Nonempty (Kept W2) := ⟨⟨W2, Below.refl _ _⟩⟩
  have e0 := kept_cell R2.lt (R2.at (o := 0) (v := .int .i64 k) rfl)
  have e1 := kept_cell R2.lt (R2.at (o := 1) (v := .int .i64 t) rfl)
  have e2 := kept_cell R2.lt (R2.at (o := 2) (v := .string s) rfl)
  have c0 := kept_cell h2.box.lt (h2.box.at (o := 0) (v := .int .i64 x.need) rfl)
  have c1 := kept_cell h2.box.lt (h2.box.at (o := 1) (v := .int .i64 x.delay) rfl)
  have c2 := kept_cell h2.box.lt (h2.box.at (o := 2) (v := .slice x.ha x.hl x.hc) rfl)
  have c3 := kept_cell h2.box.lt (h2.box.at (o := 3) (v := .int .i64 x.now) rfl)
  have c4 := kept_cell h2.box.lt (h2.box.at (o := 4) (v := .bool x.under) rfl)
  have c5 := kept_cell h2.box.lt (h2.box.at (o := 5) (v := .int .i64 x.ready) rfl)
  have c6 := kept_cell h2.box.lt (h2.box.at (o := 6) (v := .map m) rfl)
  have qc := hide (fun (q : Kept W2) => V.contains_anyF x.ha x.hl x.hc x.H s q.w (by have := h2.hz; omega) (h2.hs.keep q.h))
  clear hW2 R2 h2 h b2
  by_cases hk : k = 2
  · subst hk
    obtain ⟨B, hB⟩ : ∃ B, B = memB x.H s := ⟨_, rfl⟩
    have HBB := hide hB
    have qd := hide (fun (q : Kept W2) => (unhide qc q).mono (fun e w' (h : V.RetB e (s ∈ x.H) ∧ q.w = w') => show e = .returned (.bool B) ∧ q.w = w' from by
      obtain ⟨⟨v, rfl, hv⟩, hw⟩ := h
      refine ⟨congrArg (fun b => Ending.returned (.bool b)) ?_, hw⟩
      rw [unhide HBB, Bool.eq_iff_iff, hv, memB_iff]))
    clear qc hB
    go_enter Try.func28, Try.ntmps28
    go_upto_region 1 with fail
    rw [unhide HW]
    refine wp_region_kept (by kernel_rfl) (by kernel_rfl) ?_
    repeat (first
      | go_big_quiet_step ((go_at_call 44; exact kept_same (unhide qd _)))
      | quiet_step ((go_at_call 44; exact kept_same (unhide qd _))))
    refine wpQuiet_nil ?_
    rintro _ ⟨q, rfl⟩
    go_wp2_with fail
    go_ret
    exact ⟨congrArg (fun b => Ending.returned (.bool b)) (by rw [unhide HBB]; simp [rcB]), bTr (unhide HB) q.h⟩
  · have h1 := nn_not k 2 hk
    clear qc
    go_enter Try.func28, Try.ntmps28
    go_upto_region 1 with fail
    rw [unhide HW]
    refine wp_region_kept (by kernel_rfl) (by kernel_rfl) ?_
    repeat (first
      | go_big_quiet_step ((go_at_call 44; exact kept_same (unhide qd _)))
      | quiet_step ((go_at_call 44; exact kept_same (unhide qd _))))
    refine wpQuiet_nil ?_
    rintro _ ⟨q, rfl⟩
    go_wp2_with fail
    go_ret
    exact ⟨congrArg (fun b => Ending.returned (.bool b)) (by simp [rcB, hk]), bTr (unhide HB) q.h⟩
set_option maxHeartbeats 2000000 in
theorem isSecondVote_any {b : Nat} {x : RcT} {m : Option Nat} (k t : Int) (s : ByteArray) (w : World) (h : RcAt w b x m) (hs : s.size ≤ maxLen) (hm : k = 2 → m ≠ none) :
    Calls Try.prog 29 #[.pointer (some ⟨b, 0, none⟩), .agg #[.int .i64 k, .int .i64 t, .string s]] w fun e w' => Said e (rcB x k t s 4) w w' := by
  obtain ⟨W2, hW2⟩ : ∃ W, W = w.alloc (.cells #[.int .i64 k, .int .i64 t, .string s] 31) := ⟨_, rfl⟩
  have b2 : Below w.heap.size w W2 := by rw [hW2]; exact bAl (Below.refl _ _) _
  have R2 := show RowIs W2 w.heap.size #[.int .i64 k, .int .i64 t, .string s] 31 by rw [hW2]; exact RowIs.new _ _ _
  have h2 := h.keep b2
  have HB := hide b2
  have HW := hide hW2.symm
  have ne : Nonempty (Kept W2) := ⟨⟨W2, Below.refl _ _⟩⟩
  have e0 := kept_cell R2.lt (R2.at (o := 0) (v := .int .i64 k) rfl)
  have e1 := kept_cell R2.lt (R2.at (o := 1) (v := .int .i64 t) rfl)
  have e2 := kept_cell R2.lt (R2.at (o := 2) (v := .string s) rfl)
  have c0 := kept_cell h2.box.lt (h2.box.at (o := 0) (v := .int .i64 x.need) rfl)
  have c1 := kept_cell h2.box.lt (h2.box.at (o := 1) (v := .int .i64 x.delay) rfl)
  have c2 := kept_cell h2.box.lt (h2.box.at (o := 2) (v := .slice x.ha x.hl x.hc) rfl)
  have c3 := kept_cell h2.box.lt (h2.box.at (o := 3) (v := .int .i64 x.now) rfl)
  have c4 := kept_cell h2.box.lt (h2.box.at (o := 4) (v := .bool x.under) rfl)
  have c5 := kept_cell h2.box.lt (h2.box.at (o := 5) (v := .int .i64 x.ready) rfl)
  have c6 := kept_cell h2.box.lt (h2.box.at (o := 6) (v := .map m) rfl)
  have hmap := hide h2.map
  clear hW2 R2 h2 h b2
  by_cases hk : k = 2
  · obtain ⟨mb, rfl⟩ : ∃ mb, m = some mb := by
      cases m with
      | none => exact absurd rfl (hm hk)
      | some mb => exact ⟨mb, rfl⟩
    clear hm
    subst hk
    have qd := hide (fun (q : Kept W2) => hasV_any mb x.votes s q.w hs (((unhide hmap) mb rfl).1.keep q.h))
    clear hmap
    obtain ⟨B, hB⟩ : ∃ B, B = memB x.votes s := ⟨_, rfl⟩
    rw [← hB] at qd
    have HBB := hide hB
    clear hB
    go_enter Try.func29, Try.ntmps29
    go_upto_region 1 with fail
    rw [unhide HW]
    refine wp_region_kept (by kernel_rfl) (by kernel_rfl) ?_
    repeat (first
      | go_big_quiet_step ((go_at_call 45; exact kept_call (unhide qd _)))
      | quiet_step ((go_at_call 45; exact kept_call (unhide qd _))))
    refine wpQuiet_nil ?_
    rintro _ ⟨q, rfl⟩
    go_wp2_with fail
    go_ret
    exact ⟨congrArg (fun b => Ending.returned (.bool b)) (by rw [unhide HBB]; simp [rcB]), bTr (unhide HB) q.h⟩
  · have h1 := nn_not k 2 hk
    clear hm hmap
    go_enter Try.func29, Try.ntmps29
    go_upto_region 1 with fail
    rw [unhide HW]
    refine wp_region_kept (by kernel_rfl) (by kernel_rfl) ?_
    repeat (first
      | go_big_quiet_step ((go_at_call 45; exact kept_call (unhide qd _)))
      | quiet_step ((go_at_call 45; exact kept_call (unhide qd _))))
    refine wpQuiet_nil ?_
    rintro _ ⟨q, rfl⟩
    go_wp2_with fail
    go_ret
    exact ⟨congrArg (fun b => Ending.returned (.bool b)) (by simp [rcB, hk]), bTr (unhide HB) q.h⟩
set_option maxHeartbeats 2000000 in
theorem lacksVotes_any {b : Nat} {x : RcT} {m : Option Nat} (k t : Int) (s : ByteArray) (w : World) (h : RcAt w b x m) :
    Calls Try.prog 30 #[.pointer (some ⟨b, 0, none⟩), .agg #[.int .i64 k, .int .i64 t, .string s]] w fun e w' => Said e (rcB x k t s 5) w w' := by
  obtain ⟨W2, hW2⟩ : ∃ W, W = w.alloc (.cells #[.int .i64 k, .int .i64 t, .string s] 31) := ⟨_, rfl⟩
  have b2 : Below w.heap.size w W2 := by rw [hW2]; exact bAl (Below.refl _ _) _
  have R2 := show RowIs W2 w.heap.size #[.int .i64 k, .int .i64 t, .string s] 31 by rw [hW2]; exact RowIs.new _ _ _
  have h2 := h.keep b2
  have HB := hide b2
  have HW := hide hW2.symm
  have ne : Nonempty (Kept W2) := ⟨⟨W2, Below.refl _ _⟩⟩
  have e0 := kept_cell R2.lt (R2.at (o := 0) (v := .int .i64 k) rfl)
  have e1 := kept_cell R2.lt (R2.at (o := 1) (v := .int .i64 t) rfl)
  have e2 := kept_cell R2.lt (R2.at (o := 2) (v := .string s) rfl)
  have c0 := kept_cell h2.box.lt (h2.box.at (o := 0) (v := .int .i64 x.need) rfl)
  have c1 := kept_cell h2.box.lt (h2.box.at (o := 1) (v := .int .i64 x.delay) rfl)
  have c2 := kept_cell h2.box.lt (h2.box.at (o := 2) (v := .slice x.ha x.hl x.hc) rfl)
  have c3 := kept_cell h2.box.lt (h2.box.at (o := 3) (v := .int .i64 x.now) rfl)
  have c4 := kept_cell h2.box.lt (h2.box.at (o := 4) (v := .bool x.under) rfl)
  have c5 := kept_cell h2.box.lt (h2.box.at (o := 5) (v := .int .i64 x.ready) rfl)
  have c6 := kept_cell h2.box.lt (h2.box.at (o := 6) (v := .map m) rfl)
  have ql : ∀ q : Kept W2, (Builtin.len_ #[45] 3 #[.map m]).run Try.prog q.w = .ok (.int .i64 x.votes.length) q.w := by
    intro q
    cases m with
    | none => rw [(h2.nil rfl).1]; exact Maps.len_nil Try.underlying45 3
    | some mb => exact ((h2.map mb rfl).1.keep q.h).len 3
  clear hW2 R2 h2 h b2
  by_cases hk : k = 4
  · subst hk
    go_enter Try.func30, Try.ntmps30
    go_upto_region 1 with fail
    rw [unhide HW]
    refine wp_region_kept (by kernel_rfl) (by kernel_rfl) ?_
    repeat (first
      | go_big_quiet_step ((fail))
      | quiet_step ((fail)))
    refine wpQuiet_nil ?_
    rintro _ ⟨q, rfl⟩
    go_wp2_with fail
    go_ret
    exact ⟨congrArg (fun b => Ending.returned (.bool b)) (by simp [rcB]), bTr (unhide HB) q.h⟩
  · have h1 := nn_not k 4 hk
    clear ql
    go_enter Try.func30, Try.ntmps30
    go_upto_region 1 with fail
    rw [unhide HW]
    refine wp_region_kept (by kernel_rfl) (by kernel_rfl) ?_
    repeat (first
      | go_big_quiet_step ((fail))
      | quiet_step ((fail)))
    refine wpQuiet_nil ?_
    rintro _ ⟨q, rfl⟩
    go_wp2_with fail
    go_ret
    exact ⟨congrArg (fun b => Ending.returned (.bool b)) (by simp [rcB, hk]), bTr (unhide HB) q.h⟩
set_option maxHeartbeats 2000000 in
theorem isEarly_any {b : Nat} {x : RcT} {m : Option Nat} (k t : Int) (s : ByteArray) (w : World) (h : RcAt w b x m) :
    Calls Try.prog 31 #[.pointer (some ⟨b, 0, none⟩), .agg #[.int .i64 k, .int .i64 t, .string s]] w fun e w' => Said e (rcB x k t s 6) w w' := by
  obtain ⟨W2, hW2⟩ : ∃ W, W = w.alloc (.cells #[.int .i64 k, .int .i64 t, .string s] 31) := ⟨_, rfl⟩
  have b2 : Below w.heap.size w W2 := by rw [hW2]; exact bAl (Below.refl _ _) _
  have R2 := show RowIs W2 w.heap.size #[.int .i64 k, .int .i64 t, .string s] 31 by rw [hW2]; exact RowIs.new _ _ _
  have h2 := h.keep b2
  have HB := hide b2
  have HW := hide hW2.symm
  have ne : Nonempty (Kept W2) := ⟨⟨W2, Below.refl _ _⟩⟩
  have e0 := kept_cell R2.lt (R2.at (o := 0) (v := .int .i64 k) rfl)
  have e1 := kept_cell R2.lt (R2.at (o := 1) (v := .int .i64 t) rfl)
  have e2 := kept_cell R2.lt (R2.at (o := 2) (v := .string s) rfl)
  have c0 := kept_cell h2.box.lt (h2.box.at (o := 0) (v := .int .i64 x.need) rfl)
  have c1 := kept_cell h2.box.lt (h2.box.at (o := 1) (v := .int .i64 x.delay) rfl)
  have c2 := kept_cell h2.box.lt (h2.box.at (o := 2) (v := .slice x.ha x.hl x.hc) rfl)
  have c3 := kept_cell h2.box.lt (h2.box.at (o := 3) (v := .int .i64 x.now) rfl)
  have c4 := kept_cell h2.box.lt (h2.box.at (o := 4) (v := .bool x.under) rfl)
  have c5 := kept_cell h2.box.lt (h2.box.at (o := 5) (v := .int .i64 x.ready) rfl)
  have c6 := kept_cell h2.box.lt (h2.box.at (o := 6) (v := .map m) rfl)
  clear hW2 R2 h2 h b2
  by_cases hk : k = 4
  · subst hk
    go_enter Try.func31, Try.ntmps31
    go_upto_region 1 with fail
    rw [unhide HW]
    refine wp_region_kept (by kernel_rfl) (by kernel_rfl) ?_
    repeat (first
      | go_big_quiet_step ((fail))
      | quiet_step ((fail)))
    refine wpQuiet_nil ?_
    rintro _ ⟨q, rfl⟩
    go_wp2_with fail
    go_ret
    exact ⟨congrArg (fun b => Ending.returned (.bool b)) (by simp [rcB]), bTr (unhide HB) q.h⟩
  · have h1 := nn_not k 4 hk
    go_enter Try.func31, Try.ntmps31
    go_upto_region 1 with fail
    rw [unhide HW]
    refine wp_region_kept (by kernel_rfl) (by kernel_rfl) ?_
    repeat (first
      | go_big_quiet_step ((fail))
      | quiet_step ((fail)))
    refine wpQuiet_nil ?_
    rintro _ ⟨q, rfl⟩
    go_wp2_with fail
    go_ret
    exact ⟨congrArg (fun b => Ending.returned (.bool b)) (by simp [rcB, hk]), bTr (unhide HB) q.h⟩
end Go.Proofs.Ytjmpakpodhbbpaa
