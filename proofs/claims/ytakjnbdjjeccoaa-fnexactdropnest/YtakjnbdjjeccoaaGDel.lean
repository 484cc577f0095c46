/- slices.IndexFunc, slices.DeleteFunc at texts. -/
import Derived.Test.YtakjnbdjjeccoaaGKeys
import Derived.Lib.SliceRun
namespace Go.Proofs.Ytakjnbdjjeccoaa
open Go.RowKit Go.Maps

theorem own_cut {w : World} {base e g n cap i : Nat} {xs : List Value} (h : w.ownsRow base e 1 (.slice (some ⟨g, 0, none⟩) n cap) n xs) (hi : i ≤ n) : w.ownsRow base e 1 (.slice (some ⟨g, 0, none⟩) i cap) i (xs.take i) := by
  have h1 := h.1
  rcases h.2 with ⟨h', _⟩ | ⟨g', cap', cur, h', hb, hg, hnc, hcm, hcs, ht⟩
  · simp at h'
  · simp only [Value.slice.injEq, Option.some.injEq, Addr.mk.injEq, and_true, true_and] at h'
    obtain ⟨rfl, rfl⟩ := h'
    refine ⟨by rw [List.length_take, h1]; omega, .inr ⟨g, cap, cur, rfl, hb, hg, by omega, hcm, hcs, ?_⟩⟩
    rw [← ht, List.take_take, Nat.mul_one, Nat.mul_one, Nat.min_eq_left hi]
theorem own_setCells {base e g n cap : Nat} : ∀ (vs : List Value) (o : Nat) (w : World) (xs : List Value), w.ownsRow base e 1 (.slice (some ⟨g, 0, none⟩) n cap) n xs → ∃ ys, (w.setCells g o vs).ownsRow base e 1 (.slice (some ⟨g, 0, none⟩) n cap) n ys ∧ (∀ k, k ≤ o → ys.take k = xs.take k) ∧ w.grownBy (w.setCells g o vs) (some g)
  | [], o, w, xs, h => ⟨xs, h, fun _ _ => rfl, World.grownBy.refl _ _⟩
  | v :: r, o, w, xs, h => by
    have h1 := h.stored o v
    obtain ⟨ys, h2, h3, h4⟩ := own_setCells r (o + 1) _ _ h1.1
    refine ⟨ys, h2, fun k hk => ?_, h1.2.trans h4⟩
    rw [h3 k (by omega), List.take_set_of_le hk]
theorem own_some {w : World} {base e size : Nat} {v : Value} {n : Nat} {xs : List Value} (h : w.ownsRow base e size v n xs) (hn : 0 < n) : ∃ g cap, v = .slice (some ⟨g, 0, none⟩) n cap ∧ base ≤ g := by
  rcases h.2 with ⟨rfl, rfl⟩ | ⟨g, cap, cur, rfl, hb, _⟩
  · omega
  · exact ⟨g, cap, rfl, hb⟩
/-- Where the first one is for which p says yes, -1 where there is none. -/
def FstP (p : Bs → Bool) (r : List Bs) (i : Int) : Prop := (∃ k, ∃ h : k < r.length, i = (k : Int) ∧ p r[k] = true ∧ ∀ j (hj : j < r.length), j < k → p r[j] = false) ∨ (i = -1 ∧ ∀ x ∈ r, p x = false)
/-- Half way through: M's beginning is what stays of the first j. -/
structure DelAt (p : Bs → Bool) (r : List Bs) (j i : Nat) (M : List Bs) : Prop where
  len : M.length = r.length
  lt : i < j
  le : j ≤ r.length
  beg : M.take i = (r.take j).filter fun x => !p x
  rest : ∀ k (h : k < r.length) (h' : k < M.length), j ≤ k → M[k] = r[k]
theorem filter_len_le {α : Type} (q : α → Bool) (l : List α) : (l.filter q).length ≤ l.length := List.length_filter_le q l
theorem DelAt.start {p : Bs → Bool} {r : List Bs} {k : Nat} (h : k < r.length) (h1 : p r[k] = true) (h2 : ∀ j (hj : j < r.length), j < k → p r[j] = false) : DelAt p r (k + 1) k r := by
  refine ⟨rfl, by omega, by omega, ?_, fun _ _ _ _ => rfl⟩
  rw [List.take_succ_eq_append_getElem h, List.filter_append]
  have : (r.take k).filter (fun x => !p x) = r.take k := List.filter_eq_self.2 fun x hx => by
    obtain ⟨j, hj, rfl⟩ := List.getElem_of_mem hx
    rw [List.length_take] at hj
    rw [List.getElem_take, h2 j (by omega) (by omega)]; rfl
  rw [this]
  simp [h1]
theorem DelAt.skip {p : Bs → Bool} {r : List Bs} {j i : Nat} {M : List Bs} (h : DelAt p r j i M) (hj : j < r.length) (hp : p r[j] = true) : DelAt p r (j + 1) i M := by
  refine ⟨h.len, by have := h.lt; omega, by omega, ?_, fun k hk hk' hjk => h.rest k hk hk' (by omega)⟩
  rw [h.beg, List.take_succ_eq_append_getElem hj, List.filter_append]
  simp [hp]
theorem DelAt.take {p : Bs → Bool} {r : List Bs} {j i : Nat} {M : List Bs} (h : DelAt p r j i M) (hj : j < r.length) (hp : p r[j] = false) : DelAt p r (j + 1) (i + 1) (M.set i r[j]) := by
  have hlt := h.lt
  have hlen := h.len
  refine ⟨by simpa using h.len, by omega, by omega, ?_, fun k hk hk' hjk => ?_⟩
  · rw [List.take_succ_eq_append_getElem hj, List.filter_append, ← h.beg]
    rw [List.take_succ_eq_append_getElem (by simp; omega), List.take_set_of_le (Nat.le_refl _)]
    simp [hp]
  · rw [List.getElem_set_ne (by omega)]
    exact h.rest k hk (by omega) (by omega)
theorem DelAt.end_ {p : Bs → Bool} {r : List Bs} {i : Nat} {M : List Bs} (h : DelAt p r r.length i M) : M.take i = r.filter fun x => !p x := by
  rw [h.beg, List.take_length]
theorem map_set_str (M : List Bs) (i : Nat) (x : Bs) : (M.set i x).map Value.string = (M.map Value.string).set i (.string x) := by rw [List.map_set]
theorem zeroStr (w : World) : (zeroValue 9).run Try.prog w = .ok (.string ByteArray.empty) w := by kernel_rfl

set_option maxHeartbeats 1000000 in
theorem indexGrp_any (p : Bs → Bool) (base : Nat) (w0 w : World) (hB : Below base w0 w) (hbw : base ≤ w.heap.size) (v : Value) (r : List Bs) (ho : w.ownsRow base 9 1 v r.length (r.map Value.string)) (hl : r.length ≤ 100000)
    (q : ∀ x ∈ r, ∀ w' : World, Below base w0 w' → Calls Try.prog 67 #[.string x] w' fun e w'' => e = .returned (.bool (p x)) ∧ Below w'.heap.size w' w'') :
    Calls Try.prog 88 #[v, .func (.func 67) #[] #[]] w fun e w' => (∃ i, e = .returned (.int .i64 i) ∧ FstP p r i) ∧ Below w.heap.size w w' := by
  obtain ⟨a, cap, rfl, hs⟩ := own_strs ho
  have HS := hide hs
  have HQ := hide q
  have HB := hide hB
  clear hs ho q hB
  go_enter Try.func88, Try.ntmps88
  go_wp2_with fail
  go_loopw [8] (fun i w' => ∃ k : Nat, k ≤ r.length ∧ i = .int .i64 k ∧ Hid (Below w.heap.size w w') ∧ Hid (∀ j (hj : j < r.length), j < k → p r[j] = false)) (fun i _ => r.length - (Go.RowKit.intOf i).toNat)
  case atStart => exact ⟨0, Nat.zero_le _, rfl, hide (Below.refl _ _), hide (fun _ _ h => absurd h (Nat.not_lt_zero _))⟩
  case round =>
    obtain ⟨k, hk, rfl, hb, hA⟩ := hrel
    by_cases hlt : k < r.length
    · obtain ⟨b1, off, rfl, hrow⟩ := ((unhide HS).keep (unhide hb)).at hlt
      have c0 := hrow.c k hlt
      have zk := hrow.z
      have q := hide (unhide HQ r[k] (List.getElem_mem hlt) wr ((unhide HB).trans ((unhide hb).mono hbw)))
      have eS : Hid (p r[k] = false → ∀ j (hj : j < r.length), j < k + 1 → p r[j] = false) := hide (fun g j hj h => by
        rcases Nat.lt_or_ge j k with h1 | h1
        · exact unhide hA j hj h1
        · obtain rfl : j = k := by omega
          exact g)
      have eF : Hid (p r[k] = true → FstP p r (k : Int)) := hide (fun g => .inl ⟨k, hlt, rfl, g, unhide hA⟩)
      clear hrow
      generalize r[k] = A at c0 q eS eF
      cases hg : p A
      · rw [hg] at q
        have S := hide (unhide eS hg)
        clear hg eS eF
        go_wp2_with fail
        refine (unhide q).mono ?_
        rintro e w1 ⟨rfl, hb1⟩
        have B1 := hide (bTr (unhide hb) hb1)
        clear hb1 q c0
        go_wp2_with fail
        exact ⟨⟨k + 1, by omega, by go_num, B1, S⟩, by simp [Go.RowKit.intOf]; omega⟩
      · rw [hg] at q
        have S := hide (unhide eF hg)
        clear hg eS eF
        go_wp2_with fail
        refine (unhide q).mono ?_
        rintro e w1 ⟨rfl, hb1⟩
        have B1 := hide (bTr (unhide hb) hb1)
        clear hb1 q c0
        go_wp2_with fail
        go_ret
        exact ⟨⟨_, rfl, unhide S⟩, unhide B1⟩
    · have S : Hid (FstP p r (-1)) := hide (.inr ⟨rfl, fun x hx => by obtain ⟨j, hj, rfl⟩ := List.getElem_of_mem hx; exact unhide hA j hj (by omega)⟩)
      go_wp2_with fail
      go_ret
      exact ⟨⟨_, rfl, unhide S⟩, unhide hb⟩

set_option maxRecDepth 100000 in
set_option maxHeartbeats 2000000 in
theorem deleteGrp_any (p : Bs → Bool) (base : Nat) (w0 w : World) (hB : Below base w0 w) (hbw : base ≤ w.heap.size) (v : Value) (r : List Bs) (ho : w.ownsRow base 9 1 v r.length (r.map Value.string)) (hl : r.length ≤ 100000)
    (q : ∀ x ∈ r, ∀ w' : World, Below base w0 w' → Calls Try.prog 67 #[.string x] w' fun e w'' => e = .returned (.bool (p x)) ∧ Below w'.heap.size w' w'') :
    Calls Try.prog 65 #[v, .func (.func 67) #[] #[]] w fun e w' => (∃ v', e = .returned v' ∧ w'.ownsRow base 9 1 v' (r.filter fun x => !p x).length ((r.filter fun x => !p x).map Value.string)) ∧ Below base w0 w' := by
  have HO := hide ho
  have HQ := hide q
  have qi := hide (indexGrp_any p base w0 w hB hbw v r ho hl q)
  have HB := hide hB
  clear ho q hB
  go_enter Try.func65, Try.ntmps65
  go_wp2_with fail
  refine (unhide qi).mono ?_
  rintro e w1 ⟨⟨i, rfl, hi⟩, hb⟩
  have O1 := hide (own_keep (unhide HO) hb)
  have B1 := hide ((unhide HB).trans (hb.mono hbw))
  have z1 : base ≤ w1.heap.size := Nat.le_trans hbw hb.size
  clear hb qi HO HB
  rcases hi with ⟨k, hk, rfl, hp, hn⟩ | ⟨rfl, hn⟩
  · obtain ⟨g, cap, rfl, hg⟩ := own_some (unhide O1) (by omega)
    have D0 := hide (DelAt.start hk hp hn)
    have dk : ((k : Int) == -1) = false := by simp
    clear hp hn
    go_wp2_with fail
    go_loopw [5, 6] (fun i j wr => ∃ (a b : Nat) (M : List Bs), i = .int .i64 a ∧ j = .int .i64 b ∧ Hid (wr.ownsRow base 9 1 (.slice (some ⟨g, 0, none⟩) r.length cap) r.length (M.map Value.string)) ∧ Hid (DelAt p r b a M) ∧ Hid (Below base w0 wr) ∧ base ≤ wr.heap.size) (fun _ j _ => r.length - (Go.RowKit.intOf j).toNat)
    case atStart => exact ⟨k, k + 1, r, rfl, by go_num, O1, D0, B1, z1⟩
    case round =>
      clear O1 D0 B1 z1 dk
      obtain ⟨a, b, M, rfl, rfl, hO, hD, hB, hz⟩ := hrel
      have hle := (unhide hD).le
      have hlt0 := (unhide hD).lt
      have hln := (unhide hD).len
      by_cases hlt : b < r.length
      · have hbM : b < M.length := by omega
        have c0 : wr.cell? ⟨g, b, none⟩ = some (.string r[b]) := by
          rw [(unhide hO).cellAt b (by omega)]
          simp [hbM, (unhide hD).rest b hlt hbM (Nat.le_refl _)]
        have ca : (wr.cell? ⟨g, a, none⟩).isSome = true := by
          rw [(unhide hO).cellAt a (by omega)]
          simp; omega
        have zg : g < wr.heap.size := ((unhide hO).lt g rfl).2
        have q := hide (unhide HQ r[b] (List.getElem_mem hlt) wr (unhide hB))
        have eS := hide (fun h => (unhide hD).skip hlt h)
        have eT := hide (fun h => (unhide hD).take hlt h)
        clear hD
        generalize r[b] = A at c0 q eS eT
        cases hx : p A
        · rw [hx] at q
          replace eT := hide (unhide eT hx)
          clear hx eS
          go_wp2_with fail
          refine (unhide q).mono ?_
          rintro e w2 ⟨rfl, hb2⟩
          have O2 := hide (own_keep (unhide hO) hb2)
          have B2 := hide ((unhide hB).trans (hb2.mono hz))
          have z2 := Nat.le_trans hz hb2.size
          have f2 := (unhide O2).frozenAt a
          obtain ⟨u, hu⟩ := Option.isSome_iff_exists.1 (show (w2.cell? ⟨g, a, none⟩).isSome = true by rw [hb2.cell zg]; exact ca)
          have St := hide ((unhide O2).stored a (.string A))
          clear hb2 q c0 ca hO hB O2
          go_wp2_with fail
          exact ⟨⟨a + 1, b + 1, M.set a A, by go_num, by go_num, hide (by rw [map_set_str]; exact (unhide St).1), eT, hide ((unhide B2).grown (unhide St).2 z2 (fun j h => by cases h; exact hg)), by simpa using z2⟩, by simp [Go.RowKit.intOf]; omega⟩
        · rw [hx] at q
          replace eS := hide (unhide eS hx)
          clear hx eT
          go_wp2_with fail
          refine (unhide q).mono ?_
          rintro e w2 ⟨rfl, hb2⟩
          have O2 := hide (own_keep (unhide hO) hb2)
          have B2 := hide ((unhide hB).trans (hb2.mono hz))
          have z2 := Nat.le_trans hz hb2.size
          clear hb2 q c0 ca hO hB
          go_wp2_with fail
          exact ⟨⟨a, b + 1, M, rfl, by go_num, O2, eS, B2, z2⟩, by simp [Go.RowKit.intOf]; omega⟩
      · obtain rfl : b = r.length := by omega
        have zg : g < wr.heap.size := ((unhide hO).lt g rfl).2
        have eN := hide (unhide hD).end_
        have hcl : ∀ ty, (Builtin.clear_ #[45] ty #[.slice (some ⟨g, a, none⟩) (r.length - a) (cap - a)]).run Try.prog wr = .ok (.tuple #[]) (wr.setCells g a (List.replicate (r.length - a) (.string ByteArray.empty))) :=
          fun ty => Lib.run_clear_slice wr _ _ ty _ Try.underlying45 zeroStr rfl rfl g a _ _ (by omega) (fun t ht => by rw [(unhide hO).cellAt (a + t) (by omega)]; simp; omega) (fun t ht => (unhide hO).frozenAt _)
        obtain ⟨ys, y1, y2, y3⟩ := own_setCells (List.replicate (r.length - a) (.string ByteArray.empty)) a wr _ (unhide hO)
        have hcap : r.length ≤ cap := by
          rcases (unhide hO).2 with ⟨h, _⟩ | ⟨g', cap', cur, h, _, _, h2, _⟩
          · cases h
          · cases h; exact h2
        have FIN := hide (show (wr.setCells g a (List.replicate (r.length - a) (.string ByteArray.empty))).ownsRow base 9 1 (.slice (some ⟨g, 0, none⟩) a cap) (r.filter fun x => !p x).length ((r.filter fun x => !p x).map Value.string) ∧ Below base w0 (wr.setCells g a (List.replicate (r.length - a) (.string ByteArray.empty))) from by
          have h1 := own_cut y1 (i := a) (by omega)
          rw [y2 a (Nat.le_refl _), ← List.map_take, unhide eN] at h1
          have h2 : (r.filter fun x => !p x).length = a := by rw [← unhide eN, List.length_take]; omega
          rw [h2]
          exact ⟨h1, (unhide hB).grown y3 hz (fun j h => by cases h; exact hg)⟩)
        clear y1 y2 y3 hO hD hB eN
        generalize wr.setCells g a (List.replicate (r.length - a) (.string ByteArray.empty)) = w5 at hcl FIN
        go_wp2_with fail
        go_ret
        exact ⟨⟨_, rfl, (unhide FIN).1⟩, (unhide FIN).2⟩
  · have eN := hide (show (r.filter fun x => !p x) = r from List.filter_eq_self.2 fun x hx => by rw [hn x hx]; rfl)
    clear hn
    go_wp2_with fail
    go_ret
    exact ⟨⟨_, rfl, by rw [unhide eN]; exact unhide O1⟩, unhide B1⟩

set_option maxHeartbeats 1000000 in
theorem indexLoop_any (bx : Nat) (p : Bs → Bool) (base : Nat) (w0 w : World) (hB : Below base w0 w) (hbw : base ≤ w.heap.size) (v : Value) (r : List Bs) (ho : w.ownsRow base 9 1 v r.length (r.map Value.string)) (hl : r.length ≤ 100000)
    (q : ∀ x ∈ r, ∀ w' : World, Below base w0 w' → Calls Try.prog 95 #[.string x, .pointer (some ⟨bx, 0, none⟩)] w' fun e w'' => e = .returned (.bool (p x)) ∧ Below w'.heap.size w' w'') :
    Calls Try.prog 88 #[v, .func (.func 95) #[] #[.pointer (some ⟨bx, 0, none⟩)]] w fun e w' => (∃ i, e = .returned (.int .i64 i) ∧ FstP p r i) ∧ Below w.heap.size w w' := by
  obtain ⟨a, cap, rfl, hs⟩ := own_strs ho
  have HS := hide hs
  have HQ := hide q
  have HB := hide hB
  clear hs ho q hB
  go_enter Try.func88, Try.ntmps88
  go_wp2_with fail
  go_loopw [8] (fun i w' => ∃ k : Nat, k ≤ r.length ∧ i = .int .i64 k ∧ Hid (Below w.heap.size w w') ∧ Hid (∀ j (hj : j < r.length), j < k → p r[j] = false)) (fun i _ => r.length - (Go.RowKit.intOf i).toNat)
  case atStart => exact ⟨0, Nat.zero_le _, rfl, hide (Below.refl _ _), hide (fun _ _ h => absurd h (Nat.not_lt_zero _))⟩
  case round =>
    obtain ⟨k, hk, rfl, hb, hA⟩ := hrel
    by_cases hlt : k < r.length
    · obtain ⟨b1, off, rfl, hrow⟩ := ((unhide HS).keep (unhide hb)).at hlt
      have c0 := hrow.c k hlt
      have zk := hrow.z
      have q := hide (unhide HQ r[k] (List.getElem_mem hlt) wr ((unhide HB).trans ((unhide hb).mono hbw)))
      have eS : Hid (p r[k] = false → ∀ j (hj : j < r.length), j < k + 1 → p r[j] = false) := hide (fun g j hj h => by
        rcases Nat.lt_or_ge j k with h1 | h1
        · exact unhide hA j hj h1
        · obtain rfl : j = k := by omega
          exact g)
      have eF : Hid (p r[k] = true → FstP p r (k : Int)) := hide (fun g => .inl ⟨k, hlt, rfl, g, unhide hA⟩)
      clear hrow
      generalize r[k] = A at c0 q eS eF
      cases hg : p A
      · rw [hg] at q
        have S := hide (unhide eS hg)
        clear hg eS eF
        go_wp2_with fail
        refine (unhide q).mono ?_
        rintro e w1 ⟨rfl, hb1⟩
        have B1 := hide (bTr (unhide hb) hb1)
        clear hb1 q c0
        go_wp2_with fail
        exact ⟨⟨k + 1, by omega, by go_num, B1, S⟩, by simp [Go.RowKit.intOf]; omega⟩
      · rw [hg] at q
        have S := hide (unhide eF hg)
        clear hg eS eF
        go_wp2_with fail
        refine (unhide q).mono ?_
        rintro e w1 ⟨rfl, hb1⟩
        have B1 := hide (bTr (unhide hb) hb1)
        clear hb1 q c0
        go_wp2_with fail
        go_ret
        exact ⟨⟨_, rfl, unhide S⟩, unhide B1⟩
    · have S : Hid (FstP p r (-1)) := hide (.inr ⟨rfl, fun x hx => by obtain ⟨j, hj, rfl⟩ := List.getElem_of_mem hx; exact unhide hA j hj (by omega)⟩)
      go_wp2_with fail
      go_ret
      exact ⟨⟨_, rfl, unhide S⟩, unhide hb⟩

set_option maxRecDepth 100000 in
set_option maxHeartbeats 2000000 in
theorem deleteLoop_any (bx : Nat) (p : Bs → Bool) (base : Nat) (w0 w : World) (hB : Below base w0 w) (hbw : base ≤ w.heap.size) (v : Value) (r : List Bs) (ho : w.ownsRow base 9 1 v r.length (r.map Value.string)) (hl : r.length ≤ 100000)
    (q : ∀ x ∈ r, ∀ w' : World, Below base w0 w' → Calls Try.prog 95 #[.string x, .pointer (some ⟨bx, 0, none⟩)] w' fun e w'' => e = .returned (.bool (p x)) ∧ Below w'.heap.size w' w'') :
    Calls Try.prog 65 #[v, .func (.func 95) #[] #[.pointer (some ⟨bx, 0, none⟩)]] w fun e w' => (∃ v', e = .returned v' ∧ w'.ownsRow base 9 1 v' (r.filter fun x => !p x).length ((r.filter fun x => !p x).map Value.string)) ∧ Below base w0 w' := by
  have HO := hide ho
  have HQ := hide q
  have qi := hide (indexLoop_any bx p base w0 w hB hbw v r ho hl q)
  have HB := hide hB
  clear ho q hB
  go_enter Try.func65, Try.ntmps65
  go_wp2_with fail
  refine (unhide qi).mono ?_
  rintro e w1 ⟨⟨i, rfl, hi⟩, hb⟩
  have O1 := hide (own_keep (unhide HO) hb)
  have B1 := hide ((unhide HB).trans (hb.mono hbw))
  have z1 : base ≤ w1.heap.size := Nat.le_trans hbw hb.size
  clear hb qi HO HB
  rcases hi with ⟨k, hk, rfl, hp, hn⟩ | ⟨rfl, hn⟩
  · obtain ⟨g, cap, rfl, hg⟩ := own_some (unhide O1) (by omega)
    have D0 := hide (DelAt.start hk hp hn)
    have dk : ((k : Int) == -1) = false := by simp
    clear hp hn
    go_wp2_with fail
    go_loopw [5, 6] (fun i j wr => ∃ (a b : Nat) (M : List Bs), i = .int .i64 a ∧ j = .int .i64 b ∧ Hid (wr.ownsRow base 9 1 (.slice (some ⟨g, 0, none⟩) r.length cap) r.length (M.map Value.string)) ∧ Hid (DelAt p r b a M) ∧ Hid (Below base w0 wr) ∧ base ≤ wr.heap.size) (fun _ j _ => r.length - (Go.RowKit.intOf j).toNat)
    case atStart => exact ⟨k, k + 1, r, rfl, by go_num, O1, D0, B1, z1⟩
    case round =>
      clear O1 D0 B1 z1 dk
      obtain ⟨a, b, M, rfl, rfl, hO, hD, hB, hz⟩ := hrel
      have hle := (unhide hD).le
      have hlt0 := (unhide hD).lt
      have hln := (unhide hD).len
      by_cases hlt : b < r.length
      · have hbM : b < M.length := by omega
        have c0 : wr.cell? ⟨g, b, none⟩ = some (.string r[b]) := by
          rw [(unhide hO).cellAt b (by omega)]
          simp [hbM, (unhide hD).rest b hlt hbM (Nat.le_refl _)]
        have ca : (wr.cell? ⟨g, a, none⟩).isSome = true := by
          rw [(unhide hO).cellAt a (by omega)]
          simp; omega
        have zg : g < wr.heap.size := ((unhide hO).lt g rfl).2
        have q := hide (unhide HQ r[b] (List.getElem_mem hlt) wr (unhide hB))
        have eS := hide (fun h => (unhide hD).skip hlt h)
        have eT := hide (fun h => (unhide hD).take hlt h)
        clear hD
        generalize r[b] = A at c0 q eS eT
        cases hx : p A
        · rw [hx] at q
          replace eT := hide (unhide eT hx)
          clear hx eS
          go_wp2_with fail
          refine (unhide q).mono ?_
          rintro e w2 ⟨rfl, hb2⟩
          have O2 := hide (own_keep (unhide hO) hb2)
          have B2 := hide ((unhide hB).trans (hb2.mono hz))
          have z2 := Nat.le_trans hz hb2.size
          have f2 := (unhide O2).frozenAt a
          obtain ⟨u, hu⟩ := Option.isSome_iff_exists.1 (show (w2.cell? ⟨g, a, none⟩).isSome = true by rw [hb2.cell zg]; exact ca)
          have St := hide ((unhide O2).stored a (.string A))
          clear hb2 q c0 ca hO hB O2
          go_wp2_with fail
          exact ⟨⟨a + 1, b + 1, M.set a A, by go_num, by go_num, hide (by rw [map_set_str]; exact (unhide St).1), eT, hide ((unhide B2).grown (unhide St).2 z2 (fun j h => by cases h; exact hg)), by simpa using z2⟩, by simp [Go.RowKit.intOf]; omega⟩
        · rw [hx] at q
          replace eS := hide (unhide eS hx)
          clear hx eT
          go_wp2_with fail
          refine (unhide q).mono ?_
          rintro e w2 ⟨rfl, hb2⟩
          have O2 := hide (own_keep (unhide hO) hb2)
          have B2 := hide ((unhide hB).trans (hb2.mono hz))
          have z2 := Nat.le_trans hz hb2.size
          clear hb2 q c0 ca hO hB
          go_wp2_with fail
          exact ⟨⟨a, b + 1, M, rfl, by go_num, O2, eS, B2, z2⟩, by simp [Go.RowKit.intOf]; omega⟩
      · obtain rfl : b = r.length := by omega
        have zg : g < wr.heap.size := ((unhide hO).lt g rfl).2
        have eN := hide (unhide hD).end_
        have hcl : ∀ ty, (Builtin.clear_ #[45] ty #[.slice (some ⟨g, a, none⟩) (r.length - a) (cap - a)]).run Try.prog wr = .ok (.tuple #[]) (wr.setCells g a (List.replicate (r.length - a) (.string ByteArray.empty))) :=
          fun ty => Lib.run_clear_slice wr _ _ ty _ Try.underlying45 zeroStr rfl rfl g a _ _ (by omega) (fun t ht => by rw [(unhide hO).cellAt (a + t) (by omega)]; simp; omega) (fun t ht => (unhide hO).frozenAt _)
        obtain ⟨ys, y1, y2, y3⟩ := own_setCells (List.replicate (r.length - a) (.string ByteArray.empty)) a wr _ (unhide hO)
        have hcap : r.length ≤ cap := by
          rcases (unhide hO).2 with ⟨h, _⟩ | ⟨g', cap', cur, h, _, _, h2, _⟩
          · cases h
          · cases h; exact h2
        have FIN := hide (show (wr.setCells g a (List.replicate (r.length - a) (.string ByteArray.empty))).ownsRow base 9 1 (.slice (some ⟨g, 0, none⟩) a cap) (r.filter fun x => !p x).length ((r.filter fun x => !p x).map Value.string) ∧ Below base w0 (wr.setCells g a (List.replicate (r.length - a) (.string ByteArray.empty))) from by
          have h1 := own_cut y1 (i := a) (by omega)
          rw [y2 a (Nat.le_refl _), ← List.map_take, unhide eN] at h1
          have h2 : (r.filter fun x => !p x).length = a := by rw [← unhide eN, List.length_take]; omega
          rw [h2]
          exact ⟨h1, (unhide hB).grown y3 hz (fun j h => by cases h; exact hg)⟩)
        clear y1 y2 y3 hO hD hB eN
        generalize wr.setCells g a (List.replicate (r.length - a) (.string ByteArray.empty)) = w5 at hcl FIN
        go_wp2_with fail
        go_ret
        exact ⟨⟨_, rfl, (unhide FIN).1⟩, (unhide FIN).2⟩
  · have eN := hide (show (r.filter fun x => !p x) = r from List.filter_eq_self.2 fun x hx => by rw [hn x hx]; rfl)
    clear hn
    go_wp2_with fail
    go_ret
    exact ⟨⟨_, rfl, by rw [unhide eN]; exact unhide O1⟩, unhide B1⟩

set_option maxHeartbeats 1000000 in
theorem indexWay_any (bx by_ : Nat) (p : Bs → Bool) (base : Nat) (w0 w : World) (hB : Below base w0 w) (hbw : base ≤ w.heap.size) (v : Value) (r : List Bs) (ho : w.ownsRow base 9 1 v r.length (r.map Value.string)) (hl : r.length ≤ 100000)
    (q : ∀ x ∈ r, ∀ w' : World, Below base w0 w' → Calls Try.prog 93 #[.string x, .pointer (some ⟨bx, 0, none⟩), .pointer (some ⟨by_, 0, none⟩)] w' fun e w'' => e = .returned (.bool (p x)) ∧ Below w'.heap.size w' w'') :
    Calls Try.prog 88 #[v, .func (.func 93) #[] #[.pointer (some ⟨bx, 0, none⟩), .pointer (some ⟨by_, 0, none⟩)]] w fun e w' => (∃ i, e = .returned (.int .i64 i) ∧ FstP p r i) ∧ Below w.heap.size w w' := by
  obtain ⟨a, cap, rfl, hs⟩ := own_strs ho
  have HS := hide hs
  have HQ := hide q
  have HB := hide hB
  clear hs ho q hB
  go_enter Try.func88, Try.ntmps88
  go_wp2_with fail
  go_loopw [8] (fun i w' => ∃ k : Nat, k ≤ r.length ∧ i = .int .i64 k ∧ Hid (Below w.heap.size w w') ∧ Hid (∀ j (hj : j < r.length), j < k → p r[j] = false)) (fun i _ => r.length - (Go.RowKit.intOf i).toNat)
  case atStart => exact ⟨0, Nat.zero_le _, rfl, hide (Below.refl _ _), hide (fun _ _ h => absurd h (Nat.not_lt_zero _))⟩
  case round =>
    obtain ⟨k, hk, rfl, hb, hA⟩ := hrel
    by_cases hlt : k < r.length
    · obtain ⟨b1, off, rfl, hrow⟩ := ((unhide HS).keep (unhide hb)).at hlt
      have c0 := hrow.c k hlt
      have zk := hrow.z
      have q := hide (unhide HQ r[k] (List.getElem_mem hlt) wr ((unhide HB).trans ((unhide hb).mono hbw)))
      have eS : Hid (p r[k] = false → ∀ j (hj : j < r.length), j < k + 1 → p r[j] = false) := hide (fun g j hj h => by
        rcases Nat.lt_or_ge j k with h1 | h1
        · exact unhide hA j hj h1
        · obtain rfl : j = k := by omega
          exact g)
      have eF : Hid (p r[k] = true → FstP p r (k : Int)) := hide (fun g => .inl ⟨k, hlt, rfl, g, unhide hA⟩)
      clear hrow
      generalize r[k] = A at c0 q eS eF
      cases hg : p A
      · rw [hg] at q
        have S := hide (unhide eS hg)
        clear hg eS eF
        go_wp2_with fail
        refine (unhide q).mono ?_
        rintro e w1 ⟨rfl, hb1⟩
        have B1 := hide (bTr (unhide hb) hb1)
        clear hb1 q c0
        go_wp2_with fail
        exact ⟨⟨k + 1, by omega, by go_num, B1, S⟩, by simp [Go.RowKit.intOf]; omega⟩
      · rw [hg] at q
        have S := hide (unhide eF hg)
        clear hg eS eF
        go_wp2_with fail
        refine (unhide q).mono ?_
        rintro e w1 ⟨rfl, hb1⟩
        have B1 := hide (bTr (unhide hb) hb1)
        clear hb1 q c0
        go_wp2_with fail
        go_ret
        exact ⟨⟨_, rfl, unhide S⟩, unhide B1⟩
    · have S : Hid (FstP p r (-1)) := hide (.inr ⟨rfl, fun x hx => by obtain ⟨j, hj, rfl⟩ := List.getElem_of_mem hx; exact unhide hA j hj (by omega)⟩)
      go_wp2_with fail
      go_ret
      exact ⟨⟨_, rfl, unhide S⟩, unhide hb⟩
end Go.Proofs.Ytakjnbdjjeccoaa
