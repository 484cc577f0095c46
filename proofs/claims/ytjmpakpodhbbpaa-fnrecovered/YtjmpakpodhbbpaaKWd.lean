/- firstBroken over the rules of a recovery. -/
import Derived.Test.YtjmpakpodhbbpaaKWc
namespace Go.Proofs.Ytjmpakpodhbbpaa
set_option linter.unusedSimpArgs false
set_option linter.unusedVariables false
set_option maxRecDepth 20000
open Go.RowKit Go.Maps


/-- The number of the first that says yes, from 1 on. -/
structure FstIs (B : Nat → Bool) (n : Nat) (r : Int) : Prop where
  no : (∀ i, i < n → B i = false) → r = -1
  yes : ∀ i, i < n → B i = true → (∀ j, j < i → B j = false) → r = i
set_option maxHeartbeats 2000000 in
theorem idx_any (rv : Array Value) (n : Nat) (hz : rv.size = n) (h1 : n ≤ 100) (B : Nat → Bool) (g c : Nat) (w : World) (hg : RowIs w g rv 67)
    (hq : ∀ i (h : i < rv.size), (∀ j, j < i → B j = false) → ∀ w' : World, Below w.heap.size w w' → Calls Try.prog 43 #[rv[i], .pointer (some ⟨c, 0, none⟩)] w' fun e w'' => e = .returned (.bool (B i)) ∧ Below w'.heap.size w' w'') :
    Calls Try.prog 42 #[.slice (some ⟨g, 0, none⟩) n n, .func (Fn.func 43) #[] #[.pointer (some ⟨c, 0, none⟩)]] w fun e w' => (∃ r : Int, e = .returned (.int .i64 r) ∧ FstIs B n r) ∧ Below w.heap.size w w' := by
  have HG := hide hg
  have HQ := hide hq
  have HZ := hide hz
  clear hg hq hz
  go_enter Try.func42, Try.ntmps42
  go_wp2_with fail
  go_loopw [8] (fun i w' => ∃ k : Nat, k ≤ n ∧ i = .int .i64 k ∧ Hid (∀ j, j < k → B j = false) ∧ Hid (Below w.heap.size w w')) (fun i _ => n - (intOf i).toNat)
  case atStart => exact ⟨0, by omega, rfl, hide (fun j hj => by omega), hide (Below.refl _ _)⟩
  case round =>
    obtain ⟨k, hk, rfl, hK, hbel⟩ := hrel
    by_cases hlt : k < n
    · have rg := (unhide HG).keep (unhide hbel)
      have hk' : k < rv.size := by have := unhide HZ; omega
      have y := rg.at (o := k) (v := rv[k]) (Array.getElem?_eq_getElem hk')
      have zg := rg.lt
      have q := hide (unhide HQ k hk' (unhide hK) _ (unhide hbel))
      clear rg
      generalize rv[k] = V at y q
      cases hB : B k
      · rw [hB] at q
        have HH := hide hB
        clear hB
        go_wp2_with (go_at_call 43; refine (unhide q).mono ?_; rintro e w2 ⟨rfl, hb2⟩)
        exact ⟨⟨k + 1, by omega, by go_num, hide (fun j hj => by
          rcases Nat.lt_or_ge j k with h | h
          · exact unhide hK j h
          · obtain rfl : j = k := by omega
            exact unhide HH), hide (bTr (unhide hbel) hb2)⟩, by simp [intOf]; omega⟩
      · rw [hB] at q
        have HH := hide hB
        clear hB
        go_wp2_with (go_at_call 43; refine (unhide q).mono ?_; rintro e w2 ⟨rfl, hb2⟩)
        go_ret
        refine ⟨⟨(k : Int), rfl, fun h => ?_, fun i hi hy hn => ?_⟩, bTr (unhide hbel) hb2⟩
        · have := h k hlt
          rw [unhide HH] at this
          cases this
        · rcases Nat.lt_trichotomy i k with h | h | h
          · have := unhide hK i h
            rw [hy] at this
            cases this
          · rw [h]
          · have := hn k h
            rw [unhide HH] at this
            cases this
    · go_wp2_with fail
      go_ret
      refine ⟨⟨-1, rfl, fun _ => rfl, fun i hi hy _ => ?_⟩, unhide hbel⟩
      have := unhide hK i (by omega)
      rw [hy] at this
      cases this
theorem firstB_le : ∀ l : List Bool, 0 ≤ firstB l ∧ firstB l ≤ l.length
  | [] => ⟨Int.le_refl _, Int.le_refl _⟩
  | b :: l => by
    have h := firstB_le l
    unfold firstB
    split
    · simp only [List.length_cons]; omega
    · split
      · simp only [List.length_cons]; omega
      · simp only [List.length_cons]; omega
theorem rcFault_le (x : RcT) (k t : Int) (s : ByteArray) : 0 ≤ rcFault x k t s ∧ rcFault x k t s ≤ 7 := by
  have h := firstB_le [rcB x k t s 0, rcB x k t s 1, rcB x k t s 2, rcB x k t s 3, rcB x k t s 4, rcB x k t s 5, rcB x k t s 6]
  unfold rcFault
  simpa using h
def rulesV (b : Nat) : Array Value := #[.func (.func 25) #[] #[], .func (.func 26) #[.pointer (some ⟨b, 0, none⟩)] #[], .func (.func 27) #[.pointer (some ⟨b, 0, none⟩)] #[], .func (.func 28) #[.pointer (some ⟨b, 0, none⟩)] #[], .func (.func 29) #[.pointer (some ⟨b, 0, none⟩)] #[], .func (.func 30) #[.pointer (some ⟨b, 0, none⟩)] #[], .func (.func 31) #[.pointer (some ⟨b, 0, none⟩)] #[]]
theorem FstIs.fault {x : RcT} {k t : Int} {s : ByteArray} {r : Int} (h : FstIs (rcB x k t s) 7 r) : 1 + r = rcFault x k t s := by
  by_cases hn : ∀ i, i < 7 → rcB x k t s i = false
  · rw [h.no hn]
    unfold rcFault
    rw [firstB_all]
    · rfl
    · intro b hb
      simp only [List.mem_cons, List.not_mem_nil, or_false] at hb
      rcases hb with rfl | rfl | rfl | rfl | rfl | rfl | rfl
      all_goals exact hn _ (by omega)
  · obtain ⟨i, hi, hy, hm⟩ : ∃ i, i < 7 ∧ rcB x k t s i = true ∧ ∀ j, j < i → rcB x k t s j = false := by
      have hex : ∃ i, i < 7 ∧ rcB x k t s i = true := Classical.byContradiction fun h2 => hn fun i hi => by
        cases hb : rcB x k t s i
        · rfl
        · exact absurd ⟨i, hi, hb⟩ h2
      obtain ⟨i, hi, hb⟩ := hex
      induction i using Nat.strongRecOn with
      | ind i ih =>
        by_cases hall : ∀ j, j < i → rcB x k t s j = false
        · exact ⟨i, hi, hb, hall⟩
        · have : ∃ j, j < i ∧ rcB x k t s j = true := Classical.byContradiction fun h2 => hall fun j hj => by
            cases hb : rcB x k t s j
            · rfl
            · exact absurd ⟨j, hj, hb⟩ h2
          obtain ⟨j, hj, hb2⟩ := this
          exact ih j hj (by omega) hb2
    rw [h.yes i hi hy hm]
    unfold rcFault
    have key : ∀ (j : Nat) (hj : j < [rcB x k t s 0, rcB x k t s 1, rcB x k t s 2, rcB x k t s 3, rcB x k t s 4, rcB x k t s 5, rcB x k t s 6].length), [rcB x k t s 0, rcB x k t s 1, rcB x k t s 2, rcB x k t s 3, rcB x k t s 4, rcB x k t s 5, rcB x k t s 6][j] = rcB x k t s j := by
      intro j hj
      have h7 : j < 7 := by simpa using hj
      match j, h7 with
      | 0, _ => rfl
      | 1, _ => rfl
      | 2, _ => rfl
      | 3, _ => rfl
      | 4, _ => rfl
      | 5, _ => rfl
      | 6, _ => rfl
    rw [firstB_at (i := i) (by simpa using hi) (by rw [key]; exact hy) (fun j hj hji => by rw [key]; exact hm j hji)]
    omega
set_option maxHeartbeats 1000000 in
theorem fc_isUnfitEvent (k t : Int) (s : ByteArray) (c : Nat) (B : Bool) (w : World) (hc : RowIs w c #[.int .i64 k, .int .i64 t, .string s] 31) (q : Calls Try.prog 25 #[.agg #[.int .i64 k, .int .i64 t, .string s]] w fun e w' => Said e B w w') :
    Calls Try.prog 43 #[.func (.func 25) #[] #[], .pointer (some ⟨c, 0, none⟩)] w fun e w' => e = .returned (.bool B) ∧ Below w.heap.size w w' := by
  have Q := hide q
  have e0 := hc.at (o := 0) (v := .int .i64 k) rfl
  have e1 := hc.at (o := 1) (v := .int .i64 t) rfl
  have e2 := hc.at (o := 2) (v := .string s) rfl
  have ez := hc.lt
  clear q hc
  go_enter Try.func43, Try.ntmps43
  go_wp2_with (go_at_call 25; refine (unhide Q).mono ?_; rintro e w2 ⟨rfl, hb2⟩)
  go_ret
  exact ⟨rfl, hb2⟩
set_option maxHeartbeats 1000000 in
theorem fc_isPast (k t : Int) (s : ByteArray) (b c : Nat) (B : Bool) (w : World) (hc : RowIs w c #[.int .i64 k, .int .i64 t, .string s] 31) (q : Calls Try.prog 26 #[.pointer (some ⟨b, 0, none⟩), .agg #[.int .i64 k, .int .i64 t, .string s]] w fun e w' => Said e B w w') :
    Calls Try.prog 43 #[.func (.func 26) #[.pointer (some ⟨b, 0, none⟩)] #[], .pointer (some ⟨c, 0, none⟩)] w fun e w' => e = .returned (.bool B) ∧ Below w.heap.size w w' := by
  have Q := hide q
  have e0 := hc.at (o := 0) (v := .int .i64 k) rfl
  have e1 := hc.at (o := 1) (v := .int .i64 t) rfl
  have e2 := hc.at (o := 2) (v := .string s) rfl
  have ez := hc.lt
  clear q hc
  go_enter Try.func43, Try.ntmps43
  go_wp2_with (go_at_call 26; refine (unhide Q).mono ?_; rintro e w2 ⟨rfl, hb2⟩)
  go_ret
  exact ⟨rfl, hb2⟩
set_option maxHeartbeats 1000000 in
theorem fc_isOutOfPlace (k t : Int) (s : ByteArray) (b c : Nat) (B : Bool) (w : World) (hc : RowIs w c #[.int .i64 k, .int .i64 t, .string s] 31) (q : Calls Try.prog 27 #[.pointer (some ⟨b, 0, none⟩), .agg #[.int .i64 k, .int .i64 t, .string s]] w fun e w' => Said e B w w') :
    Calls Try.prog 43 #[.func (.func 27) #[.pointer (some ⟨b, 0, none⟩)] #[], .pointer (some ⟨c, 0, none⟩)] w fun e w' => e = .returned (.bool B) ∧ Below w.heap.size w w' := by
  have Q := hide q
  have e0 := hc.at (o := 0) (v := .int .i64 k) rfl
  have e1 := hc.at (o := 1) (v := .int .i64 t) rfl
  have e2 := hc.at (o := 2) (v := .string s) rfl
  have ez := hc.lt
  clear q hc
  go_enter Try.func43, Try.ntmps43
  go_wp2_with (go_at_call 27; refine (unhide Q).mono ?_; rintro e w2 ⟨rfl, hb2⟩)
  go_ret
  exact ⟨rfl, hb2⟩
set_option maxHeartbeats 1000000 in
theorem fc_isOfStranger (k t : Int) (s : ByteArray) (b c : Nat) (B : Bool) (w : World) (hc : RowIs w c #[.int .i64 k, .int .i64 t, .string s] 31) (q : Calls Try.prog 28 #[.pointer (some ⟨b, 0, none⟩), .agg #[.int .i64 k, .int .i64 t, .string s]] w fun e w' => Said e B w w') :
    Calls Try.prog 43 #[.func (.func 28) #[.pointer (some ⟨b, 0, none⟩)] #[], .pointer (some ⟨c, 0, none⟩)] w fun e w' => e = .returned (.bool B) ∧ Below w.heap.size w w' := by
  have Q := hide q
  have e0 := hc.at (o := 0) (v := .int .i64 k) rfl
  have e1 := hc.at (o := 1) (v := .int .i64 t) rfl
  have e2 := hc.at (o := 2) (v := .string s) rfl
  have ez := hc.lt
  clear q hc
  go_enter Try.func43, Try.ntmps43
  go_wp2_with (go_at_call 28; refine (unhide Q).mono ?_; rintro e w2 ⟨rfl, hb2⟩)
  go_ret
  exact ⟨rfl, hb2⟩
set_option maxHeartbeats 1000000 in
theorem fc_isSecondVote (k t : Int) (s : ByteArray) (b c : Nat) (B : Bool) (w : World) (hc : RowIs w c #[.int .i64 k, .int .i64 t, .string s] 31) (q : Calls Try.prog 29 #[.pointer (some ⟨b, 0, none⟩), .agg #[.int .i64 k, .int .i64 t, .string s]] w fun e w' => Said e B w w') :
    Calls Try.prog 43 #[.func (.func 29) #[.pointer (some ⟨b, 0, none⟩)] #[], .pointer (some ⟨c, 0, none⟩)] w fun e w' => e = .returned (.bool B) ∧ Below w.heap.size w w' := by
  have Q := hide q
  have e0 := hc.at (o := 0) (v := .int .i64 k) rfl
  have e1 := hc.at (o := 1) (v := .int .i64 t) rfl
  have e2 := hc.at (o := 2) (v := .string s) rfl
  have ez := hc.lt
  clear q hc
  go_enter Try.func43, Try.ntmps43
  go_wp2_with (go_at_call 29; refine (unhide Q).mono ?_; rintro e w2 ⟨rfl, hb2⟩)
  go_ret
  exact ⟨rfl, hb2⟩
set_option maxHeartbeats 1000000 in
theorem fc_lacksVotes (k t : Int) (s : ByteArray) (b c : Nat) (B : Bool) (w : World) (hc : RowIs w c #[.int .i64 k, .int .i64 t, .string s] 31) (q : Calls Try.prog 30 #[.pointer (some ⟨b, 0, none⟩), .agg #[.int .i64 k, .int .i64 t, .string s]] w fun e w' => Said e B w w') :
    Calls Try.prog 43 #[.func (.func 30) #[.pointer (some ⟨b, 0, none⟩)] #[], .pointer (some ⟨c, 0, none⟩)] w fun e w' => e = .returned (.bool B) ∧ Below w.heap.size w w' := by
  have Q := hide q
  have e0 := hc.at (o := 0) (v := .int .i64 k) rfl
  have e1 := hc.at (o := 1) (v := .int .i64 t) rfl
  have e2 := hc.at (o := 2) (v := .string s) rfl
  have ez := hc.lt
  clear q hc
  go_enter Try.func43, Try.ntmps43
  go_wp2_with (go_at_call 30; refine (unhide Q).mono ?_; rintro e w2 ⟨rfl, hb2⟩)
  go_ret
  exact ⟨rfl, hb2⟩
set_option maxHeartbeats 1000000 in
theorem fc_isEarly (k t : Int) (s : ByteArray) (b c : Nat) (B : Bool) (w : World) (hc : RowIs w c #[.int .i64 k, .int .i64 t, .string s] 31) (q : Calls Try.prog 31 #[.pointer (some ⟨b, 0, none⟩), .agg #[.int .i64 k, .int .i64 t, .string s]] w fun e w' => Said e B w w') :
    Calls Try.prog 43 #[.func (.func 31) #[.pointer (some ⟨b, 0, none⟩)] #[], .pointer (some ⟨c, 0, none⟩)] w fun e w' => e = .returned (.bool B) ∧ Below w.heap.size w w' := by
  have Q := hide q
  have e0 := hc.at (o := 0) (v := .int .i64 k) rfl
  have e1 := hc.at (o := 1) (v := .int .i64 t) rfl
  have e2 := hc.at (o := 2) (v := .string s) rfl
  have ez := hc.lt
  clear q hc
  go_enter Try.func43, Try.ntmps43
  go_wp2_with (go_at_call 31; refine (unhide Q).mono ?_; rintro e w2 ⟨rfl, hb2⟩)
  go_ret
  exact ⟨rfl, hb2⟩
end Go.Proofs.Ytjmpakpodhbbpaa
