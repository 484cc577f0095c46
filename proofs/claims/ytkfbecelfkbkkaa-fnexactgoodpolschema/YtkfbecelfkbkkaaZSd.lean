/- spec.l11GoodAttrs. -/
import Derived.Test.YtkfbecelfkbkkaaZSc
import Derived.BigQuiet
namespace Go.Proofs.Ytkfbecelfkbkkaa.V
set_option linter.unusedSimpArgs false
set_option linter.unusedVariables false
open Go.RowKit

def AkAt (ns : List ByteArray) (l : List AttrKindE) (i : Nat) : Prop := ∀ h : i < l.length, GAttr ns l[i].t ∧ (0 < i → cmpT l[i - 1].t.f0.data.toList l[i].t.f0.data.toList < 0)
theorem attrs_iff (ns : List ByteArray) (l : List AttrKindE) : GAttrs ns (l.map (·.t)) ↔ (l.length ≤ 20 ∧ ∀ i, i < l.length → AkAt ns l i) := by
  unfold GAttrs RisN'
  constructor
  · rintro ⟨⟨h1, h2⟩, h3⟩
    refine ⟨by simpa using h1, fun i _ hi => ⟨h2 _ (List.mem_map_of_mem (List.getElem_mem hi)), fun h0 => ?_⟩⟩
    obtain ⟨j, rfl⟩ : ∃ j, i = j + 1 := ⟨i - 1, by omega⟩
    have := h3 j (by simpa using hi)
    simpa using this
  · rintro ⟨h1, h2⟩
    refine ⟨⟨by simpa using h1, fun a ha => ?_⟩, fun i hi => ?_⟩
    · obtain ⟨e, he, rfl⟩ := List.mem_map.1 ha
      obtain ⟨i, hi, rfl⟩ := List.getElem_of_mem he
      exact (h2 i hi hi).1
    · have hi' : i + 1 < l.length := by simpa using hi
      have := (h2 (i + 1) hi' hi').2 (Nat.succ_pos _)
      simpa using this
set_option maxRecDepth 20000 in
set_option maxHeartbeats 8000000 in
theorem l11GoodAttrs_n (h0 h1 : Hd) (ts : List ThingTypeT) (h : Hd) (xs : List AttrKindT) (w : World) (lt : ts.length ≤ maxLen) (hl : xs.length ≤ maxLen) (hn : ∀ q ∈ xs, AttrKindN q) (st : SqThingType w 0 h0 ts) (hs : SqAttrKind w 0 h xs) :
    Calls Try.prog 49 #[.agg #[.slice h0.a h0.len h0.cap, .slice h1.a h1.len h1.cap], .slice h.a h.len h.cap] w fun r w' => RetB r (GAttrs (ts.map (·.f0)) xs) ∧ Below w.heap.size w w' := by
  obtain ⟨l, rfl, hs⟩ := hs
  have hl' : l.length ≤ maxLen := by simpa using hl
  have hn' : ∀ e ∈ l, AttrKindN e.t := fun e he => hn _ (List.mem_map_of_mem he)
  have q1 := hide (fun (s : ByteArray) (hk : s.size ≤ maxLen) (w' : World) (hb : Below w.heap.size w w') => l11GoodKind_n h0 h1 ts s w' lt hk (st.keep hb))
  have D := hide (attrs_iff (ts.map (·.f0)) l)
  generalize GAttrs (ts.map (·.f0)) (l.map (·.t)) = G at D ⊢
  generalize ts.map (·.f0) = ns at D q1
  have HL := hide hs.1
  have LM : h.len ≤ maxLen := by rw [hs.1]; exact hl'
  unfold maxLen at LM
  have HS := hide hs
  have HN := hide hn'
  have R := hide (RowIs.new w #[.slice h0.a h0.len h0.cap, .slice h1.a h1.len h1.cap] 53)
  have B := hide (bAl (Below.refl w.heap.size w) (.cells #[.slice h0.a h0.len h0.cap, .slice h1.a h1.len h1.cap] 53))
  obtain ⟨a, len, cap⟩ := h
  simp only at HL LM
  clear lt hl hn st hs hl' hn'
  go_enter Try.func49, Try.ntmps49
  go_wp2_with fail
  go_loopw [9] (fun i w' => ∃ k : Nat, k ≤ len ∧ i = .int .i64 k ∧ Hid (Below w.heap.size w w') ∧ Hid (RowIs w' w.heap.size #[.slice h0.a h0.len h0.cap, .slice h1.a h1.len h1.cap] 53) ∧ Hid (∀ i, i < k → AkAt ns l i)) (fun i _ => len - (intOf i).toNat)
  case atStart => exact ⟨0, Nat.zero_le _, rfl, B, R, hide (fun i h => absurd h (Nat.not_lt_zero _))⟩
  case round =>
    clear B R
    obtain ⟨k, hk, rfl, B, R, hA⟩ := hrel
    by_cases hlt : k < len
    case neg =>
      have Y : Hid (G ↔ decide ((len : Int) ≤ 20) = true) := hide ((unhide D).trans ⟨fun h => decide_eq_true (by have := unhide HL; have := h.1; omega), fun h => ⟨by have := of_decide_eq_true h; have := unhide HL; omega, fun i hi => unhide hA i (by have := unhide HL; omega)⟩⟩)
      clear hA D
      go_wp2_with fail
      go_ret
      exact ⟨retB (unhide Y).symm, unhide B⟩
    have hk' : k < l.length := by have := unhide HL; omega
    obtain ⟨b, off, e0, hrow⟩ := ((unhide HS).keep (unhide B)).at hlt
    simp only at e0
    subst e0
    have RR := hide hrow
    have zk := hrow.z
    have c0 := hrow.c0 k hk'
    have c1 := hrow.c1 k hk'
    have c2 := hrow.c2 k hk'
    have hnk := unhide HN _ (List.getElem_mem hk')
    have NO : Hid (¬ (GAttr ns l[k].t ∧ (0 < k → cmpT l[k - 1].t.f0.data.toList l[k].t.f0.data.toList < 0)) → ¬ G) := hide (fun h g => h (((unhide D).1 g).2 k hk' hk'))
    have STEP : Hid ((GAttr ns l[k].t ∧ (0 < k → cmpT l[k - 1].t.f0.data.toList l[k].t.f0.data.toList < 0)) → ∀ i, i < k + 1 → AkAt ns l i) := hide (fun g i h1 => by
      rcases Nat.lt_or_ge i k with h2 | h2
      · exact unhide hA i h2
      · obtain rfl : i = k := by omega
        exact fun _ => g)
    have qk := hide (unhide q1 l[k].t.f1 hnk.o1)
    have o0 := hide hnk.o0
    clear hrow hA hnk
    obtain ⟨W, hW⟩ : ∃ W, W = wr.alloc (.cells #[.string l[k].t.f0, .string l[k].t.f1, .bool l[k].t.f2] 138) := ⟨_, rfl⟩
    have bW : Below wr.heap.size wr W := by rw [hW]; exact bAl (Below.refl _ _) _
    have qW : RowIs W wr.heap.size #[.string l[k].t.f0, .string l[k].t.f1, .bool l[k].t.f2] 138 := by rw [hW]; exact RowIs.new wr _ _
    have HW := hide hW
    have ne : Nonempty (Kept W) := ⟨⟨W, Below.refl _ _⟩⟩
    have qn := hide (fun (q : Kept W) => sGoodName_any l[k].t.f0 (unhide o0) q.w)
    have x0 := kept_cell (W := W) (p := ⟨wr.heap.size, 0, none⟩) qW.lt (qW.at (o := 0) (v := .string l[k].t.f0) rfl)
    have x1 := kept_cell (W := W) (p := ⟨wr.heap.size, 1, none⟩) qW.lt (qW.at (o := 1) (v := .string l[k].t.f1) rfl)
    have x2 := kept_cell (W := W) (p := ⟨wr.heap.size, 2, none⟩) qW.lt (qW.at (o := 2) (v := .bool l[k].t.f2) rfl)
    have rw_ := (unhide R).keep bW
    have y0 := kept_cell (W := W) (p := ⟨w.heap.size, 0, none⟩) rw_.lt (rw_.at (o := 0) (v := .slice h0.a h0.len h0.cap) rfl)
    have y1 := kept_cell (W := W) (p := ⟨w.heap.size, 1, none⟩) rw_.lt (rw_.at (o := 1) (v := .slice h1.a h1.len h1.cap) rfl)
    have RW := hide rw_
    have bk := hide (bTr (unhide B) bW)
    have DK : Hid (∀ p q : Prop, True) := hide (fun _ _ => trivial)
    have NO' := hide (show ¬ ((goodName l[k].t.f0 = true ∧ GKind ns l[k].t.f1) ∧ (0 < k → cmpT l[k - 1].t.f0.data.toList l[k].t.f0.data.toList < 0)) → ¬ G from unhide NO)
    have STEP' := hide (show ((goodName l[k].t.f0 = true ∧ GKind ns l[k].t.f1) ∧ (0 < k → cmpT l[k - 1].t.f0.data.toList l[k].t.f0.data.toList < 0)) → ∀ i, i < k + 1 → AkAt ns l i from unhide STEP)
    clear hW rw_ NO STEP DK
    have NO := NO'
    have STEP := STEP'
    clear NO' STEP'
    generalize GKind ns l[k].t.f1 = KK at NO STEP qk
    by_cases hk0 : k = 0
    · subst hk0
      simp only [Nat.zero_mul, Nat.add_zero] at c0 c1 c2
      clear qW RR
      generalize l[0] = A at *
      cases gN : goodName A.t.f0
      · have no := hide (unhide NO (fun h => by have := h.1.1; rw [gN] at this; cases this))
        rw [gN] at qn
        clear gN qk NO STEP
        go_wp2_with fail
        rw [← unhide HW]
        clear HW c0 c1 c2
        refine wp_region_kept (by kernel_rfl) (by kernel_rfl) ?_
        repeat (first
          | go_big_quiet_step (first | (go_at_call 46; with_reducible exact kept_same (unhide qn _)))
          | quiet_step (first | (go_at_call 46; with_reducible exact kept_same (unhide qn _))))
        refine wpQuiet_nil ?_
        rintro _ ⟨q, rfl⟩
        go_wp2_with fail
        go_ret
        exact ⟨retB (b := false) ⟨fun h => (by cases h), fun h => absurd h (unhide no)⟩, bTr (unhide bk) q.h⟩
      rw [gN] at qn
      by_cases gK : KK
      case neg =>
        have qg := hide (fun (q : Kept W) => callsF (unhide qk q.w (bTr (unhide bk) q.h)) gK)
        have no := hide (unhide NO (fun h => gK h.1.2))
        clear gN qk NO STEP gK 
        go_wp2_with fail
        rw [← unhide HW]
        clear HW c0 c1 c2
        refine wp_region_kept (by kernel_rfl) (by kernel_rfl) ?_
        repeat (first
          | go_big_quiet_step (first | (go_at_call 46; with_reducible exact kept_same (unhide qn _)) | (go_at_call 86; with_reducible exact kept_call (unhide qg _)))
          | quiet_step (first | (go_at_call 46; with_reducible exact kept_same (unhide qn _)) | (go_at_call 86; with_reducible exact kept_call (unhide qg _))))
        refine wpQuiet_nil ?_
        rintro _ ⟨q, rfl⟩
        go_wp2_with fail
        go_ret
        exact ⟨retB (b := false) ⟨fun h => (by cases h), fun h => absurd h (unhide no)⟩, bTr (unhide bk) q.h⟩
      have qg := hide (fun (q : Kept W) => callsT (unhide qk q.w (bTr (unhide bk) q.h)) gK)
      have S := hide (unhide STEP ⟨⟨gN, gK⟩, fun h => absurd h (Nat.lt_irrefl _)⟩)
      clear gN qk NO STEP gK 
      go_wp2_with fail
      rw [← unhide HW]
      clear HW c0 c1 c2
      refine wp_region_kept (by kernel_rfl) (by kernel_rfl) ?_
      repeat (first
        | go_big_quiet_step (first | (go_at_call 46; with_reducible exact kept_same (unhide qn _)) | (go_at_call 86; with_reducible exact kept_call (unhide qg _)))
        | quiet_step (first | (go_at_call 46; with_reducible exact kept_same (unhide qn _)) | (go_at_call 86; with_reducible exact kept_call (unhide qg _))))
      refine wpQuiet_nil ?_
      rintro _ ⟨q, rfl⟩
      have BE := hide (bTr (unhide bk) q.h)
      have RE := hide ((unhide RW).keep q.h)
      go_wp2_with fail
      exact ⟨⟨0 + 1, by omega, by go_num, BE, RE, S⟩, by simp [intOf]; omega⟩
    · obtain ⟨j, rfl⟩ : ∃ j, k = j + 1 := ⟨k - 1, by omega⟩
      have hj : j < l.length := by omega
      have rj := (unhide RR).fr (Fr.below bW 0) (Nat.zero_le _)
      have zj : b < W.heap.size := Nat.lt_of_lt_of_le zk bW.size
      have t0 := kept_cell zj (rj.c0 j hj)
      have qc := hide (fun (q : Kept W) => cmpText_any l[j].t.f0 l[j + 1].t.f0 q.w (unhide HN _ (List.getElem_mem hj)).o0)
      have dj : decide (0 < (j : Int) + 1) = true := decide_eq_true (by omega)
      have ej : IntKind.i64.wrap ((j : Int) + 1 - 1) = (j : Int) := by rw [IntKind.wrap_i64]; omega
      have i0 : (0 : Int) ≤ (j : Int) := by omega
      have i1 : (j : Int) < (len : Int) := by omega
      simp only [Nat.add_sub_cancel] at NO STEP
      clear rj qW RR
      generalize cmpT l[j].t.f0.data.toList l[j + 1].t.f0.data.toList = cc at *
      generalize l[j + 1] = A at *
      generalize l[j] = Pv at *
      cases gN : goodName A.t.f0
      · have no := hide (unhide NO (fun h => by have := h.1.1; rw [gN] at this; cases this))
        rw [gN] at qn
        clear gN qk NO STEP
        go_wp2_with fail
        rw [← unhide HW]
        clear HW c0 c1 c2
        refine wp_region_kept (by kernel_rfl) (by kernel_rfl) ?_
        repeat (first
          | go_big_quiet_step (first | (go_at_call 46; with_reducible exact kept_same (unhide qn _)) | (go_at_call 47; with_reducible exact kept_call (unhide qc _)))
          | quiet_step (first | (go_at_call 46; with_reducible exact kept_same (unhide qn _)) | (go_at_call 47; with_reducible exact kept_call (unhide qc _))))
        refine wpQuiet_nil ?_
        rintro _ ⟨q, rfl⟩
        go_wp2_with fail
        go_ret
        exact ⟨retB (b := false) ⟨fun h => (by cases h), fun h => absurd h (unhide no)⟩, bTr (unhide bk) q.h⟩
      rw [gN] at qn
      by_cases hc : cc < 0
      case neg =>
        have no := hide (unhide NO (fun h => hc (h.2 (Nat.succ_pos _))))
        have dc : decide (0 ≤ cc) = true := by simp; omega
        clear gN qk hc NO STEP
        go_wp2_with fail
        rw [← unhide HW]
        clear HW c0 c1 c2
        refine wp_region_kept (by kernel_rfl) (by kernel_rfl) ?_
        repeat (first
          | go_big_quiet_step (first | (go_at_call 46; with_reducible exact kept_same (unhide qn _)) | (go_at_call 47; with_reducible exact kept_call (unhide qc _)))
          | quiet_step (first | (go_at_call 46; with_reducible exact kept_same (unhide qn _)) | (go_at_call 47; with_reducible exact kept_call (unhide qc _))))
        refine wpQuiet_nil ?_
        rintro _ ⟨q, rfl⟩
        go_wp2_with fail
        go_ret
        exact ⟨retB (b := false) ⟨fun h => (by cases h), fun h => absurd h (unhide no)⟩, bTr (unhide bk) q.h⟩
      have dc : decide (0 ≤ cc) = false := by simp; omega
      by_cases gK : KK
      case neg =>
        have qg := hide (fun (q : Kept W) => callsF (unhide qk q.w (bTr (unhide bk) q.h)) gK)
        have no := hide (unhide NO (fun h => gK h.1.2))
        clear gN qk NO STEP gK hc
        go_wp2_with fail
        rw [← unhide HW]
        clear HW c0 c1 c2
        refine wp_region_kept (by kernel_rfl) (by kernel_rfl) ?_
        repeat (first
          | go_big_quiet_step (first | (go_at_call 46; with_reducible exact kept_same (unhide qn _)) | (go_at_call 47; with_reducible exact kept_call (unhide qc _)) | (go_at_call 86; with_reducible exact kept_call (unhide qg _)))
          | quiet_step (first | (go_at_call 46; with_reducible exact kept_same (unhide qn _)) | (go_at_call 47; with_reducible exact kept_call (unhide qc _)) | (go_at_call 86; with_reducible exact kept_call (unhide qg _))))
        refine wpQuiet_nil ?_
        rintro _ ⟨q, rfl⟩
        go_wp2_with fail
        go_ret
        exact ⟨retB (b := false) ⟨fun h => (by cases h), fun h => absurd h (unhide no)⟩, bTr (unhide bk) q.h⟩
      have qg := hide (fun (q : Kept W) => callsT (unhide qk q.w (bTr (unhide bk) q.h)) gK)
      have S := hide (unhide STEP ⟨⟨gN, gK⟩, fun _ => hc⟩)
      clear gN qk NO STEP gK hc
      go_wp2_with fail
      rw [← unhide HW]
      clear HW c0 c1 c2
      refine wp_region_kept (by kernel_rfl) (by kernel_rfl) ?_
      repeat (first
        | go_big_quiet_step (first | (go_at_call 46; with_reducible exact kept_same (unhide qn _)) | (go_at_call 47; with_reducible exact kept_call (unhide qc _)) | (go_at_call 86; with_reducible exact kept_call (unhide qg _)))
        | quiet_step (first | (go_at_call 46; with_reducible exact kept_same (unhide qn _)) | (go_at_call 47; with_reducible exact kept_call (unhide qc _)) | (go_at_call 86; with_reducible exact kept_call (unhide qg _))))
      refine wpQuiet_nil ?_
      rintro _ ⟨q, rfl⟩
      have BE := hide (bTr (unhide bk) q.h)
      have RE := hide ((unhide RW).keep q.h)
      go_wp2_with fail
      exact ⟨⟨(j + 1) + 1, by omega, by go_num, BE, RE, S⟩, by simp [intOf]; omega⟩
end Go.Proofs.Ytkfbecelfkbkkaa.V
