/- spec: l18Scopes, GoodServer. -/
import Derived.Test.YtflabaknembioaaKVp
import Derived.Test.YtflabaknembioaaWValI
import Derived.BigQuiet
namespace Go.Proofs.Ytflabaknembioaa.V
set_option linter.unusedSimpArgs false
set_option linter.unusedVariables false
set_option maxRecDepth 20000
open Go.RowKit

set_option maxHeartbeats 4000000 in
theorem l3Rising_n (h : Hd) (l : List ByteArray) (w : World) (hl : l.length ≤ maxLen) (ho : ∀ q ∈ l, ByteArray.size q ≤ maxLen) (hs : SqS w 0 h l) :
    Calls Try.prog 29 #[.slice h.a h.len h.cap] w fun e w' => RetB e (∀ i (h : i + 1 < l.length), cmpT l[i].data.toList l[i + 1].data.toList < 0) ∧ Below w.heap.size w w' := by
  have qq : ∀ x ∈ l, ∀ y ∈ l, ∀ w' : World, Below w.heap.size w w' → Calls Try.prog 12 #[.string x, .string y] w' fun e w'' => e = .returned (.int .i64 (cmpT x.data.toList y.data.toList)) ∧ Below w'.heap.size w' w'' := fun x hx y _ w' _ => cmpText_any x y w' (ho x hx)
  have HS := hide hs
  have HQ := hide qq
  have HL := hide hs.1
  have hlm : h.len ≤ maxLen := by rw [hs.1]; exact hl
  unfold maxLen at hlm
  obtain ⟨a, len, cap⟩ := h
  simp only at hlm HL
  clear hs qq hl
  go_enter Try.func29, Try.ntmps29
  go_wp2
  go_loopw [3] (fun i w' => ∃ k : Nat, 1 ≤ k ∧ (k ≤ len ∨ k = 1) ∧ i = .int .i64 k ∧ Hid (Below w.heap.size w w') ∧ Hid (∀ i (h : i + 1 < l.length), i + 1 < k → cmpT l[i].data.toList l[i + 1].data.toList < 0)) (fun i _ => len - (Go.RowKit.intOf i).toNat)
  case atStart => exact ⟨1, Nat.le_refl _, .inr rfl, rfl, hide (Below.refl _ _), hide (fun i _ h => absurd h (by omega))⟩
  case round =>
    obtain ⟨k, hk1, hk, rfl, hb, hris⟩ := hrel
    by_cases hlt : k < len
    · obtain ⟨j, rfl⟩ : ∃ j, k = j + 1 := ⟨k - 1, by omega⟩
      have hk' : j + 1 < l.length := by have := unhide HL; omega
      have hj : j < l.length := by omega
      obtain ⟨bb_, off, e0, hrow⟩ := ((unhide HS).keep (unhide hb)).sl.at hlt
      simp only at e0
      subst e0
      have p0 := hrow.c (j + 1) hk'
      have o0 := hrow.c j hj
      have zk := hrow.z
      have qc := hide (fun (q : Kept wr) => unhide HQ l[j] (List.getElem_mem hj) l[j + 1] (List.getElem_mem hk') q.w (bTr (unhide hb) q.h))
      have stepR : Hid (cmpT l[j].data.toList l[j + 1].data.toList < 0 → ∀ i (h : i + 1 < l.length), i + 1 < j + 1 + 1 → cmpT l[i].data.toList l[i + 1].data.toList < 0) := hide (fun g i hi h1 => by
        rcases Nat.lt_or_ge i j with h2 | h2
        · exact unhide hris i hi (by omega)
        · obtain rfl : i = j := by omega
          exact g)
      have noR : Hid (¬ cmpT l[j].data.toList l[j + 1].data.toList < 0 → ¬ ∀ i (h : i + 1 < l.length), cmpT l[i].data.toList l[i + 1].data.toList < 0) := hide (fun g h => g (h j hk'))
      clear hrow hris
      generalize cmpT l[j].data.toList l[j + 1].data.toList = cc at qc stepR noR
      generalize l[j + 1] = P at p0 qc
      generalize l[j] = Q at o0 qc
      have ne : Nonempty (Kept wr) := ⟨⟨wr, Below.refl _ _⟩⟩
      have x0 := kept_cell zk p0
      have y0 := kept_cell zk o0
      have ej : IntKind.i64.wrap ((j : Int) + 1 - 1) = (j : Int) := by rw [IntKind.wrap_i64]; omega
      have i0 : (0 : Int) ≤ (j : Int) := by omega
      have i1 : (j : Int) < (len : Int) := by omega
      have i2 : (j : Int) + 1 < (len : Int) := by omega
      clear p0 o0 zk
      by_cases hc : cc < 0
      · have dc : decide (0 ≤ cc) = false := by simp; omega
        replace stepR := hide (unhide stepR hc)
        clear hc noR
        go_wp2_with fail
        refine wp_region_kept (by kernel_rfl) (by kernel_rfl) ?_
        repeat (first
          | go_big_quiet_step ((go_at_call 12; exact kept_call (unhide qc _)))
          | quiet_step ((go_at_call 12; exact kept_call (unhide qc _))))
        refine wpQuiet_nil ?_
        rintro _ ⟨q, rfl⟩
        go_wp2_with fail
        exact ⟨⟨j + 1 + 1, by omega, by omega, by go_num, hide (bTr (unhide hb) q.h), stepR⟩, by simp [Go.RowKit.intOf]; omega⟩
      · have dc : decide (0 ≤ cc) = true := by simp; omega
        replace noR := hide (unhide noR hc)
        clear hc stepR
        go_wp2_with fail
        refine wp_region_kept (by kernel_rfl) (by kernel_rfl) ?_
        repeat (first
          | go_big_quiet_step ((go_at_call 12; exact kept_call (unhide qc _)))
          | quiet_step ((go_at_call 12; exact kept_call (unhide qc _))))
        refine wpQuiet_nil ?_
        rintro _ ⟨q, rfl⟩
        go_wp2_with fail
        go_ret
        exact ⟨retB (b := false) ⟨fun h => (by cases h), fun h => absurd h (unhide noR)⟩, bTr (unhide hb) q.h⟩
    · have hR : Hid (∀ i (h : i + 1 < l.length), cmpT l[i].data.toList l[i + 1].data.toList < 0) := hide (fun i h => unhide hris i h (by have := unhide HL; omega))
      clear hris
      go_wp2_with fail
      go_ret
      exact ⟨retB (b := true) ⟨fun _ => unhide hR, fun _ => rfl⟩, unhide hb⟩
set_option maxHeartbeats 4000000 in
theorem l18Scopes_n (h : Hd) (l : List ByteArray) (w : World) (hl : l.length ≤ maxLen) (ho : ∀ q ∈ l, ByteArray.size q ≤ maxLen) (hs : SqS w 0 h l) :
    Calls Try.prog 13 #[.slice h.a h.len h.cap] w fun e w' => RetB e (GSc l) ∧ Below w.heap.size w w' := by
  have HS := hide hs
  have HO := hide ho
  have HL := hide hs.1
  have hlm : h.len ≤ maxLen := by rw [hs.1]; exact hl
  have q3 := hide (fun (w' : World) (hb : Below w.heap.size w w') => l3Rising_n h l w' hl ho (hs.keep hb))
  unfold maxLen at hlm
  obtain ⟨a, len, cap⟩ := h
  simp only at hlm HL q3
  clear hs ho hl
  go_enter Try.func13, Try.ntmps13
  go_wp2_with fail
  go_loopw [7] (fun i w' => ∃ k : Nat, k ≤ len ∧ i = .int .i64 k ∧ Hid (Below w.heap.size w w') ∧ Hid (∀ i (h : i < l.length), i < k → goodName l[i] = true)) (fun i _ => len - (Go.RowKit.intOf i).toNat)
  case atStart => exact ⟨0, Nat.zero_le _, rfl, hide (Below.refl _ _), hide (fun i _ h => absurd h (Nat.not_lt_zero _))⟩
  case round =>
    obtain ⟨k, hk, rfl, B, hA⟩ := hrel
    by_cases hlt : k < len
    case neg =>
      have S : Hid (∀ x ∈ l, goodName x = true) := hide (fun x hx => by
        obtain ⟨i, hi, rfl⟩ := List.getElem_of_mem hx
        exact unhide hA i hi (by have := unhide HL; omega))
      clear hA
      by_cases h20 : (len : Int) ≤ 20
      case neg =>
        have no : Hid (¬ GSc l) := hide (fun g => h20 (by have := g.1.1; have := unhide HL; omega))
        have d : decide ((len : Int) ≤ 20) = false := decide_eq_false h20
        clear S q3 h20
        go_wp2_with fail
        go_ret
        exact ⟨retB (b := false) ⟨fun h => (by cases h), fun h => absurd h (unhide no)⟩, unhide B⟩
      have d : decide ((len : Int) ≤ 20) = true := decide_eq_true h20
      have D : Hid (GSc l ↔ (∀ i (h : i + 1 < l.length), cmpT l[i].data.toList l[i + 1].data.toList < 0)) := hide ⟨fun h => h.2, fun h => ⟨⟨by have := unhide HL; omega, unhide S⟩, h⟩⟩
      clear S h20
      go_wp2_with fail
      refine (unhide q3 _ (unhide B)).mono ?_
      rintro r w1 ⟨⟨v, rfl, hv⟩, hb⟩
      have HV := hide hv
      replace B := hide (bTr (unhide B) hb)
      clear hv hb q3
      go_wp2_with fail
      go_ret
      exact ⟨retB (b := v) ((unhide HV).trans (unhide D).symm), unhide B⟩
    have hk' : k < l.length := by have := unhide HL; omega
    obtain ⟨b, off, e0, row⟩ := ((unhide HS).keep (unhide B)).sl.at hlt
    simp only at e0
    subst e0
    have c0 := row.c k hk'
    have qp := hide (fun w => sGoodName_any l[k] (unhide HO _ (List.getElem_mem hk')) w)
    have NO : Hid (goodName l[k] = false → ¬ GSc l) := hide (fun h g => by have := g.1.2 _ (List.getElem_mem hk'); rw [h] at this; cases this)
    have ST : Hid (goodName l[k] = true → ∀ i (h : i < l.length), i < k + 1 → goodName l[i] = true) := hide (fun g i hi h1 => by
      rcases Nat.lt_or_ge i k with h2 | h2
      · exact unhide hA i hi h2
      · obtain rfl : i = k := by omega
        exact g)
    clear row hA
    generalize l[k] = p at c0 qp NO ST
    go_wp2_with fail
    refine (unhide qp _).mono ?_
    rintro r w4 ⟨rfl, rfl⟩
    clear qp c0
    cases hg : goodName p
    · have no := hide (unhide NO hg)
      clear NO ST hg
      go_wp2_with fail
      go_ret
      exact ⟨retB (b := false) ⟨fun h => (by cases h), fun h => absurd h (unhide no)⟩, unhide B⟩
    · have S3 := hide (unhide ST hg)
      clear NO ST hg
      go_wp2_with fail
      exact ⟨⟨k + 1, by omega, by go_num, B, S3⟩, by simp [Go.RowKit.intOf]; omega⟩
end Go.Proofs.Ytflabaknembioaa.V
