/- spec.l12Has, l11Thing. -/
import Derived.Test.YtpfekkhnjaopdaaGreatNHg
import Derived.Test.YtpfekkhnjaopdaaGreatNSr
namespace Go.Proofs.YtpfekkhnjaopdaaGreat.V
set_option linter.unusedSimpArgs false
set_option linter.unusedVariables false
open Go.RowKit Go.Maps

set_option maxRecDepth 20000 in
set_option maxHeartbeats 4000000 in
theorem l12Has_n (hd : Hd) (l : List AtomT) (a : AtomT) (w : World) (hl : l.length ≤ maxLen) (hs : SqA w 0 hd l) :
    Calls Tryz.prog 47 #[.slice hd.a hd.len hd.cap, encA a] w fun e w' => RetB e (a ∈ l) ∧ Below w.heap.size w w' := by
  have HS := hide hs
  have HL := hide hs.1
  have LM : hd.len ≤ maxLen := by rw [hs.1]; exact hl
  unfold maxLen at LM
  obtain ⟨ha, len, cap⟩ := hd
  simp only at HL LM
  obtain ⟨ax, an, at', ay⟩ := a
  unfold encA
  generalize hG : ((⟨ax, an, at', ay⟩ : AtomT) ∈ l) = G
  have D : Hid (G ↔ (⟨ax, an, at', ay⟩ : AtomT) ∈ l) := hide (by rw [hG])
  have R := hide (RowIs.new w #[.int .i64 ax, .int .i64 an, .string at', .string ay] 31)
  have B := hide (bAl (Below.refl w.heap.size w) (.cells #[.int .i64 ax, .int .i64 an, .string at', .string ay] 31))
  clear hs hl hG
  go_enter Tryz.func47, Tryz.ntmps47
  go_wp2_with fail
  go_loopw [9] (fun i w' => ∃ k : Nat, k ≤ len ∧ i = .int .i64 k ∧ Hid (Below w.heap.size w w') ∧ Hid (RowIs w' w.heap.size #[.int .i64 ax, .int .i64 an, .string at', .string ay] 31) ∧ Hid (∀ i (h : i < l.length), i < k → ¬ l[i] = ⟨ax, an, at', ay⟩)) (fun i _ => len - (Go.RowKit.intOf i).toNat)
  case atStart => exact ⟨0, Nat.zero_le _, rfl, B, R, hide (fun i _ h => absurd h (Nat.not_lt_zero _))⟩
  case round =>
    clear B R
    obtain ⟨k, hk, rfl, B, R, hA⟩ := hrel
    by_cases hlt : k < len
    case neg =>
      have no : Hid (¬ G) := hide (fun g => by
        obtain ⟨i, hi, h⟩ := List.getElem_of_mem ((unhide D).1 g)
        exact unhide hA i hi (by have := unhide HL; omega) h)
      clear hA D
      go_wp2_with fail
      go_ret
      exact ⟨retB (b := false) ⟨fun h => (by cases h), fun h => absurd h (unhide no)⟩, unhide B⟩
    have hk' : k < l.length := by have := unhide HL; omega
    obtain ⟨b1, off1, e1, row1⟩ := ((unhide HS).keep (unhide B)).sl.at hlt
    simp only at e1
    subst e1
    have c0 := (row1.c k hk').c0
    have c1 := (row1.c k hk').c1
    have c2 := (row1.c k hk').c2
    have c3 := (row1.c k hk').c3
    have YES : Hid (l[k] = ⟨ax, an, at', ay⟩ → G) := hide (fun h => (unhide D).2 (by rw [← h]; exact List.getElem_mem hk'))
    have STP : Hid (¬ l[k] = ⟨ax, an, at', ay⟩ → ∀ i (h : i < l.length), i < k + 1 → ¬ l[i] = ⟨ax, an, at', ay⟩) := hide (fun g i hi h1 => by
      rcases Nat.lt_or_ge i k with h2 | h2
      · exact unhide hA i hi h2
      · obtain rfl : i = k := by omega
        exact g)
    have zl := (unhide R).lt
    have r0 := (unhide R).at (o := 0) (v := .int .i64 ax) rfl
    have r1 := (unhide R).at (o := 1) (v := .int .i64 an) rfl
    have r2 := (unhide R).at (o := 2) (v := .string at') rfl
    have r3 := (unhide R).at (o := 3) (v := .string ay) rfl
    clear row1 hA D
    generalize l[k] = A at *
    obtain ⟨x, n, t, y⟩ := A
    simp only at c0 c1 c2 c3
    have BN := hide (bAl (unhide B) (.cells #[.int .i64 x, .int .i64 n, .string t, .string y] 31))
    have RN := hide ((unhide R).keep (bAl (Below.refl _ _) (.cells #[.int .i64 x, .int .i64 n, .string t, .string y] 31)))
    by_cases e0 : x = ax
    case neg =>
      have d : (x == ax) = false := by simpa using e0
      have S := hide (unhide STP (fun h => e0 (by injection h)))
      clear e0 YES STP
      go_wp2_with fail
      exact ⟨⟨k + 1, by omega, by go_num, BN, RN, S⟩, by simp [Go.RowKit.intOf]; omega⟩
    subst e0
    by_cases e1 : n = an
    case neg =>
      have d : (n == an) = false := by simpa using e1
      have S := hide (unhide STP (fun h => e1 (by injection h)))
      clear e1 YES STP
      go_wp2_with fail
      exact ⟨⟨k + 1, by omega, by go_num, BN, RN, S⟩, by simp [Go.RowKit.intOf]; omega⟩
    subst e1
    by_cases e2 : t = at'
    case neg =>
      have d : (ByteArray.toList t == ByteArray.toList at') = false := str_neN e2
      have S := hide (unhide STP (fun h => e2 (by injection h)))
      clear e2 YES STP
      go_wp2_with fail
      exact ⟨⟨k + 1, by omega, by go_num, BN, RN, S⟩, by simp [Go.RowKit.intOf]; omega⟩
    subst e2
    by_cases e3 : y = ay
    case neg =>
      have d : (ByteArray.toList y == ByteArray.toList ay) = false := str_neN e3
      have S := hide (unhide STP (fun h => e3 (by injection h)))
      clear e3 YES STP
      go_wp2_with fail
      exact ⟨⟨k + 1, by omega, by go_num, BN, RN, S⟩, by simp [Go.RowKit.intOf]; omega⟩
    subst e3
    have yes := hide (unhide YES rfl)
    clear YES STP
    go_wp2_with fail
    go_ret
    exact ⟨retB (b := true) ⟨fun _ => unhide yes, fun _ => rfl⟩, unhide BN⟩
theorem find_atN {E : Type} {p : E → Bool} {l : List E} {k : Nat} (hk : k < l.length) (h1 : ∀ i (h : i < l.length), i < k → p l[i] = false) (h2 : p l[k] = true) : l.find? p = some l[k] := by
  induction l generalizing k with
  | nil => cases hk
  | cons x l ih =>
    rw [List.find?_cons]
    cases k with
    | zero => simp at h2; simp [h2]
    | succ k =>
      have h0 := h1 0 (by simp) (by omega)
      simp at h0
      simp [h0]
      exact ih (by simpa using hk) (fun i hi hik => by have := h1 (i + 1) (by simpa using hi) (by omega); simpa using this) (by simpa using h2)
set_option maxRecDepth 20000 in
set_option maxHeartbeats 4000000 in
theorem l11Thing_n (hd : Hd) (l : List ThingE) (a : AtomT) (w : World) (hl : l.length ≤ maxLen) (hs : SqThingE w 0 hd l) :
    Calls Tryz.prog 46 #[.slice hd.a hd.len hd.cap, encA a] w fun r w' => (∃ (x : ThingE) (b : Bool), r = .returned (.tuple #[thV x, .bool b]) ∧ l.find? (fun c => decide (c.t.f0 = a)) = (if b = true then some x else none) ∧ (b = false → x.h1 = ⟨none, 0, 0⟩)) ∧ Below w.heap.size w w' := by
  have HL := hide hs.1
  have LM : hd.len ≤ maxLen := by rw [hs.1]; exact hl
  unfold maxLen at LM
  have HS := hide hs
  obtain ⟨ax, an, at', ay⟩ := a
  unfold encA thV
  obtain ⟨FD, hFD⟩ : ∃ FD, FD = l.find? (fun c => decide (c.t.f0 = ⟨ax, an, at', ay⟩)) := ⟨_, rfl⟩
  have HFD := hide hFD
  rw [← hFD]
  have R := hide ((RowIs.new w #[.int .i64 ax, .int .i64 an, .string at', .string ay] 31).keep (bAl (Below.refl _ _) (.cells #[.int .i64 0, .int .i64 0, .string ⟨#[]⟩, .string ⟨#[]⟩, .slice none 0 0, .slice none 0 0, .slice none 0 0] 56)))
  have Z : Hid (RowIs ((w.alloc (.cells #[.int .i64 ax, .int .i64 an, .string at', .string ay] 31)).alloc (.cells #[.int .i64 0, .int .i64 0, .string ⟨#[]⟩, .string ⟨#[]⟩, .slice none 0 0, .slice none 0 0, .slice none 0 0] 56)) (w.heap.size + 1) #[.int .i64 0, .int .i64 0, .string ⟨#[]⟩, .string ⟨#[]⟩, .slice none 0 0, .slice none 0 0, .slice none 0 0] 56) := hide (by have := RowIs.new (w.alloc (.cells #[.int .i64 ax, .int .i64 an, .string at', .string ay] 31)) #[.int .i64 0, .int .i64 0, .string ⟨#[]⟩, .string ⟨#[]⟩, .slice none 0 0, .slice none 0 0, .slice none 0 0] 56; simpa using this)
  have B := hide (bAl (bAl (Below.refl w.heap.size w) (.cells #[.int .i64 ax, .int .i64 an, .string at', .string ay] 31)) (.cells #[.int .i64 0, .int .i64 0, .string ⟨#[]⟩, .string ⟨#[]⟩, .slice none 0 0, .slice none 0 0, .slice none 0 0] 56))
  obtain ⟨W0, hW0⟩ : ∃ W, W = (w.alloc (.cells #[.int .i64 ax, .int .i64 an, .string at', .string ay] 31)).alloc (.cells #[.int .i64 0, .int .i64 0, .string ⟨#[]⟩, .string ⟨#[]⟩, .slice none 0 0, .slice none 0 0, .slice none 0 0] 56) := ⟨_, rfl⟩
  have HW := hide hW0
  rw [← hW0] at R Z B
  clear hs hl hW0 hFD
  go_enter Tryz.func46, Tryz.ntmps46
  go_wp2_with fail
  rw [← unhide HW]
  clear HW
  go_loopw [10] (fun i w' => ∃ k : Nat, k ≤ hd.len ∧ i = .int .i64 k ∧ Hid (Below w.heap.size w w') ∧ Hid (RowIs w' w.heap.size #[.int .i64 ax, .int .i64 an, .string at', .string ay] 31) ∧ Hid (RowIs w' (w.heap.size + 1) #[.int .i64 0, .int .i64 0, .string ⟨#[]⟩, .string ⟨#[]⟩, .slice none 0 0, .slice none 0 0, .slice none 0 0] 56) ∧ Hid (∀ i (h : i < l.length), i < k → ¬ l[i].t.f0 = ⟨ax, an, at', ay⟩)) (fun i _ => hd.len - (Go.RowKit.intOf i).toNat)
  case atStart => exact ⟨0, Nat.zero_le _, rfl, B, R, Z, hide (fun i _ h => absurd h (Nat.not_lt_zero _))⟩
  case round =>
    clear B Z R
    obtain ⟨k, hk, rfl, B, R, Z, hA⟩ := hrel
    by_cases hlt : k < hd.len
    case neg =>
      have no : Hid (FD = none) := hide (by
        rw [unhide HFD]
        refine List.find?_eq_none.2 fun e he hd => ?_
        obtain ⟨i, hi, rfl⟩ := List.getElem_of_mem he
        exact unhide hA i hi (by have := unhide HL; omega) (by simpa using hd))
      have k0 := (unhide Z).at (o := 0) (v := .int .i64 0) rfl
      have q0 := (unhide Z).froz 0
      have k1 := (unhide Z).at (o := 1) (v := .int .i64 0) rfl
      have q1 := (unhide Z).froz 1
      have k2 := (unhide Z).at (o := 2) (v := .string ⟨#[]⟩) rfl
      have q2 := (unhide Z).froz 2
      have k3 := (unhide Z).at (o := 3) (v := .string ⟨#[]⟩) rfl
      have q3 := (unhide Z).froz 3
      have k4 := (unhide Z).at (o := 4) (v := .slice none 0 0) rfl
      have q4 := (unhide Z).froz 4
      have k5 := (unhide Z).at (o := 5) (v := .slice none 0 0) rfl
      have q5 := (unhide Z).froz 5
      have k6 := (unhide Z).at (o := 6) (v := .slice none 0 0) rfl
      have q6 := (unhide Z).froz 6
      clear hA HFD
      go_wp2_with fail
      refine bodyPost_ret (v := .tuple #[.agg #[.int .i64 0, .int .i64 0, .string ⟨#[]⟩, .string ⟨#[]⟩, .slice none 0 0, .slice none 0 0, .slice none 0 0], .bool false]) (by simp [results, Tryz.results46, go_sem, k0, k1, k2, k3, k4, k5, k6]) rfl ⟨⟨⟨⟨⟨0, 0, ⟨#[]⟩, ⟨#[]⟩⟩, [], [], []⟩, ⟨none, 0, 0⟩, ⟨none, 0, 0⟩, ⟨none, 0, 0⟩⟩, false, rfl, by rw [unhide no]; rfl, fun _ => rfl⟩, ?_⟩
      repeat refine bSt ?_ (by omega) _ _
      exact unhide B
    have hk' : k < l.length := by have := unhide HL; omega
    obtain ⟨b1, off1, e1, row1⟩ := ((unhide HS).keep (unhide B)).at hlt
    have c0 := row1.c0 k hk'
    have c1 := row1.c1 k hk'
    have c2 := row1.c2 k hk'
    have c3 := row1.c3 k hk'
    have c4 := row1.c4 k hk'
    have c5 := row1.c5 k hk'
    have c6 := row1.c6 k hk'
    have YES : Hid (l[k].t.f0 = ⟨ax, an, at', ay⟩ → FD = some l[k]) := hide (fun h => by
      rw [unhide HFD]
      exact find_atN hk' (fun i hi hik => by simpa using unhide hA i hi hik) (by simpa using h))
    have STP : Hid (¬ l[k].t.f0 = ⟨ax, an, at', ay⟩ → ∀ i (h : i < l.length), i < k + 1 → ¬ l[i].t.f0 = ⟨ax, an, at', ay⟩) := hide (fun g i hi h1 => by
      rcases Nat.lt_or_ge i k with h2 | h2
      · exact unhide hA i hi h2
      · obtain rfl : i = k := by omega
        exact g)
    have zl := (unhide R).lt
    have r0 := (unhide R).at (o := 0) (v := .int .i64 ax) rfl
    have r1 := (unhide R).at (o := 1) (v := .int .i64 an) rfl
    have r2 := (unhide R).at (o := 2) (v := .string at') rfl
    have r3 := (unhide R).at (o := 3) (v := .string ay) rfl
    clear row1 hA HFD
    generalize l[k] = A at *
    generalize hd.a = aa at e1 ⊢
    subst e1
    obtain ⟨⟨⟨x, n, t, y⟩, u1, u2, u3⟩, g1, g2, g3⟩ := A
    simp only at c0 c1 c2 c3 c4 c5 c6 YES STP
    have BN := hide (bAl (unhide B) (.cells #[.int .i64 x, .int .i64 n, .string t, .string y, .slice g1.a g1.len g1.cap, .slice g2.a g2.len g2.cap, .slice g3.a g3.len g3.cap] 56))
    have ZN := hide ((unhide Z).keep (bAl (Below.refl _ _) (.cells #[.int .i64 x, .int .i64 n, .string t, .string y, .slice g1.a g1.len g1.cap, .slice g2.a g2.len g2.cap, .slice g3.a g3.len g3.cap] 56)))
    have RN := hide ((unhide R).keep (bAl (Below.refl _ _) (.cells #[.int .i64 x, .int .i64 n, .string t, .string y, .slice g1.a g1.len g1.cap, .slice g2.a g2.len g2.cap, .slice g3.a g3.len g3.cap] 56)))
    by_cases e0 : x = ax
    case neg =>
      have d : (x == ax) = false := by simpa using e0
      have S := hide (unhide STP (fun h => e0 (by injection h)))
      clear e0 YES STP
      go_wp2_with fail
      exact ⟨⟨k + 1, by omega, by go_num, BN, RN, ZN, S⟩, by simp [Go.RowKit.intOf]; omega⟩
    subst e0
    by_cases e1 : n = an
    case neg =>
      have d : (n == an) = false := by simpa using e1
      have S := hide (unhide STP (fun h => e1 (by injection h)))
      clear e1 YES STP
      go_wp2_with fail
      exact ⟨⟨k + 1, by omega, by go_num, BN, RN, ZN, S⟩, by simp [Go.RowKit.intOf]; omega⟩
    subst e1
    by_cases e2 : t = at'
    case neg =>
      have d : (ByteArray.toList t == ByteArray.toList at') = false := str_neN e2
      have S := hide (unhide STP (fun h => e2 (by injection h)))
      clear e2 YES STP
      go_wp2_with fail
      exact ⟨⟨k + 1, by omega, by go_num, BN, RN, ZN, S⟩, by simp [Go.RowKit.intOf]; omega⟩
    subst e2
    by_cases e3 : y = ay
    case neg =>
      have d : (ByteArray.toList y == ByteArray.toList ay) = false := str_neN e3
      have S := hide (unhide STP (fun h => e3 (by injection h)))
      clear e3 YES STP
      go_wp2_with fail
      exact ⟨⟨k + 1, by omega, by go_num, BN, RN, ZN, S⟩, by simp [Go.RowKit.intOf]; omega⟩
    subst e3
    have yes := hide (unhide YES rfl)
    clear YES STP
    have k0 := (unhide Z).at (o := 0) (v := .int .i64 0) rfl
    have q0 := (unhide Z).froz 0
    have k1 := (unhide Z).at (o := 1) (v := .int .i64 0) rfl
    have q1 := (unhide Z).froz 1
    have k2 := (unhide Z).at (o := 2) (v := .string ⟨#[]⟩) rfl
    have q2 := (unhide Z).froz 2
    have k3 := (unhide Z).at (o := 3) (v := .string ⟨#[]⟩) rfl
    have q3 := (unhide Z).froz 3
    have k4 := (unhide Z).at (o := 4) (v := .slice none 0 0) rfl
    have q4 := (unhide Z).froz 4
    have k5 := (unhide Z).at (o := 5) (v := .slice none 0 0) rfl
    have q5 := (unhide Z).froz 5
    have k6 := (unhide Z).at (o := 6) (v := .slice none 0 0) rfl
    have q6 := (unhide Z).froz 6
    have zz : w.heap.size + 1 < wr.heap.size := (unhide Z).lt
    have ZF := ((((((((unhide Z).set 0 (.int .i64 x)).set 1 (.int .i64 n)).set 2 (.string t)).set 3 (.string y)).set 4 (.slice g1.a g1.len g1.cap)).set 5 (.slice g2.a g2.len g2.cap)).set 6 (.slice g3.a g3.len g3.cap))
    simp only [List.setIfInBounds_toArray, List.set_cons_zero, List.set_cons_succ] at ZF
    have ZG := ZF.keep (bAl (Below.refl _ _) (.cells #[.int .i64 x, .int .i64 n, .string t, .string y, .slice g1.a g1.len g1.cap, .slice g2.a g2.len g2.cap, .slice g3.a g3.len g3.cap] 56))
    have f0 := ZG.at (o := 0) (v := .int .i64 x) rfl
    have f1 := ZG.at (o := 1) (v := .int .i64 n) rfl
    have f2 := ZG.at (o := 2) (v := .string t) rfl
    have f3 := ZG.at (o := 3) (v := .string y) rfl
    have f4 := ZG.at (o := 4) (v := .slice g1.a g1.len g1.cap) rfl
    have f5 := ZG.at (o := 5) (v := .slice g2.a g2.len g2.cap) rfl
    have f6 := ZG.at (o := 6) (v := .slice g3.a g3.len g3.cap) rfl
    have F := hide (And.intro f0 (And.intro f1 (And.intro f2 (And.intro f3 (And.intro f4 (And.intro f5 f6))))))
    clear ZF ZG f0 f1 f2 f3 f4 f5 f6
    go_wp2_with fail
    obtain ⟨f0, f1, f2, f3, f4, f5, f6⟩ := unhide F
    refine bodyPost_ret (v := .tuple #[.agg #[.int .i64 x, .int .i64 n, .string t, .string y, .slice g1.a g1.len g1.cap, .slice g2.a g2.len g2.cap, .slice g3.a g3.len g3.cap], .bool true]) (by simp [results, Tryz.results46, go_sem, f0, f1, f2, f3, f4, f5, f6]) rfl ⟨⟨⟨⟨⟨x, n, t, y⟩, u1, u2, u3⟩, g1, g2, g3⟩, true, rfl, by rw [unhide yes]; rfl, fun h => by cases h⟩, ?_⟩
    refine bAl ?_ _
    repeat refine bSt ?_ (by omega) _ _
    exact unhide B
end Go.Proofs.YtpfekkhnjaopdaaGreat.V
