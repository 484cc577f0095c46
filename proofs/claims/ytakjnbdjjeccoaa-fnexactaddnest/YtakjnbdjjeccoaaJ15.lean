/- GDel, GImp, one behind the other. -/
import Derived.Test.YtakjnbdjjeccoaaJ13
import Derived.Lib.SliceRun
/- slices.IndexFunc, slices.DeleteFunc at texts. -/
namespace Go.Proofs.Ytakjnbdjjeccoaa
open Go.RowKit Go.Maps

theorem own_cut {w : World} {base e g n cap i : Nat} {xs : List Value} (h : w.ownsRow base e 1 (.slice (some ⟨g, 0, none⟩) n cap) n xs) (hi : i ≤ n) : w.ownsRow base e 1 (.slice (some ⟨g, 0, none⟩) i cap) i (xs.take i) := by
  have h1 := h.1
  rcases h.2 with ⟨h', _⟩ | ⟨g', cap', cur, h', hb, hg, hnc, hcm, hcs, ht⟩
  · simp at h'
  · simp only [Value.slice.injEq, Option.some.injEq, Addr.mk.injEq, and_true, true_and] at h'
    obtain ⟨rfl, rfl⟩ := h'
    refine ⟨by rw [List.length_take, h1]; omega, .inr ⟨g, cap, cur, rfl, hb, hg, by omega, hcm, hcs, ?_⟩⟩
    rw [← ht, List.take_take, Nat.mul_one, Nat.mul_one, Nat.min_eq_left hi]
theorem own_setCells {base e g n cap : Nat} : ∀ (vs : List Value) (o : Nat) (w : World) (xs : List Value), w.ownsRow base e 1 (.slice (some ⟨g, 0, none⟩) n cap) n xs → ∃ ys, (w.setCells g o vs).ownsRow base e 1 (.slice (some ⟨g, 0, none⟩) n cap) n ys ∧ (∀ k, k ≤ o → ys.take k = xs.take k) ∧ w.grownBy (w.setCells g o vs) (some g)
  | [], o, w, xs, h => ⟨xs, h, fun _ _ => rfl, World.grownBy.refl _ _⟩
  | v :: r, o, w, xs, h => by
    have h1 := h.stored o v
    obtain ⟨ys, h2, h3, h4⟩ := own_setCells r (o + 1) _ _ h1.1
    refine ⟨ys, h2, fun k hk => ?_, h1.2.trans h4⟩
    rw [h3 k (by omega), List.take_set_of_le hk]
theorem own_some {w : World} {base e size : Nat} {v : Value} {n : Nat} {xs : List Value} (h : w.ownsRow base e size v n xs) (hn : 0 < n) : ∃ g cap, v = .slice (some ⟨g, 0, none⟩) n cap ∧ base ≤ g := by
  rcases h.2 with ⟨rfl, rfl⟩ | ⟨g, cap, cur, rfl, hb, _⟩
  · omega
  · exact ⟨g, cap, rfl, hb⟩
/-- Where the first one is for which p says yes, -1 where there is none. -/
def FstP (p : Bs → Bool) (r : List Bs) (i : Int) : Prop := (∃ k, ∃ h : k < r.length, i = (k : Int) ∧ p r[k] = true ∧ ∀ j (hj : j < r.length), j < k → p r[j] = false) ∨ (i = -1 ∧ ∀ x ∈ r, p x = false)
/-- Half way through: M's beginning is what stays of the first j. -/
structure DelAt (p : Bs → Bool) (r : List Bs) (j i : Nat) (M : List Bs) : Prop where
  len : M.length = r.length
  lt : i < j
  le : j ≤ r.length
  beg : M.take i = (r.take j).filter fun x => !p x
  rest : ∀ k (h : k < r.length) (h' : k < M.length), j ≤ k → M[k] = r[k]
theorem filter_len_le {α : Type} (q : α → Bool) (l : List α) : (l.filter q).length ≤ l.length := List.length_filter_le q l
theorem DelAt.start {p : Bs → Bool} {r : List Bs} {k : Nat} (h : k < r.length) (h1 : p r[k] = true) (h2 : ∀ j (hj : j < r.length), j < k → p r[j] = false) : DelAt p r (k + 1) k r := by
  refine ⟨rfl, by omega, by omega, ?_, fun _ _ _ _ => rfl⟩
  rw [List.take_succ_eq_append_getElem h, List.filter_append]
  have : (r.take k).filter (fun x => !p x) = r.take k := List.filter_eq_self.2 fun x hx => by
    obtain ⟨j, hj, rfl⟩ := List.getElem_of_mem hx
    rw [List.length_take] at hj
    rw [List.getElem_take, h2 j (by omega) (by omega)]; rfl
  rw [this]
  simp [h1]
theorem DelAt.skip {p : Bs → Bool} {r : List Bs} {j i : Nat} {M : List Bs} (h : DelAt p r j i M) (hj : j < r.length) (hp : p r[j] = true) : DelAt p r (j + 1) i M := by
  refine ⟨h.len, by have := h.lt; omega, by omega, ?_, fun k hk hk' hjk => h.rest k hk hk' (by omega)⟩
  rw [h.beg, List.take_succ_eq_append_getElem hj, List.filter_append]
  simp [hp]
theorem DelAt.take {p : Bs → Bool} {r : List Bs} {j i : Nat} {M : List Bs} (h : DelAt p r j i M) (hj : j < r.length) (hp : p r[j] = false) : DelAt p r (j + 1) (i + 1) (M.set i r[j]) := by
  have hlt := h.lt
  have hlen := h.len
  refine ⟨by simpa using h.len, by omega, by omega, ?_, fun k hk hk' hjk => ?_⟩
  · rw [List.take_succ_eq_append_getElem hj, List.filter_append, ← h.beg]
    rw [List.take_succ_eq_append_getElem (by simp; omega), List.take_set_of_le (Nat.le_refl _)]
    simp [hp]
  · rw [List.getElem_set_ne (by omega)]
    exact h.rest k hk (by omega) (by omega)
theorem DelAt.end_ {p : Bs → Bool} {r : List Bs} {i : Nat} {M : List Bs} (h : DelAt p r r.length i M) : M.take i = r.filter fun x => !p x := by
  rw [h.beg, List.take_length]
theorem map_set_str (M : List Bs) (i : Nat) (x : Bs) : (M.set i x).map Value.string = (M.map Value.string).set i (.string x) := by rw [List.map_set]
theorem zeroStr (w : World) : (zeroValue 9).run Try.prog w = .ok (.string ByteArray.empty) w := by kernel_rfl

set_option maxHeartbeats 1000000 in
theorem indexGrp_any (p : Bs → Bool) (base : Nat) (w0 w : World) (hB : Below base w0 w) (hbw : base ≤ w.heap.size) (v : Value) (r : List Bs) (ho : w.ownsRow base 9 1 v r.length (r.map Value.string)) (hl : r.length ≤ 100000)
    (q : ∀ x ∈ r, ∀ w' : World, Below base w0 w' → Calls Try.prog 67 #[.string x] w' fun e w'' => e = .returned (.bool (p x)) ∧ Below w'.heap.size w' w'') :
    Calls Try.prog 88 #[v, .func (.func 67) #[] #[]] w fun e w' => (∃ i, e = .returned (.int .i64 i) ∧ FstP p r i) ∧ Below w.heap.size w w' := by
  obtain ⟨a, cap, rfl, hs⟩ := own_strs ho
  have HS := hide hs
  have HQ := hide q
  have HB := hide hB
  clear hs ho q hB
  go_enter Try.func88, Try.ntmps88
  go_wp2_with fail
  go_loopw [8] (fun i w' => ∃ k : Nat, k ≤ r.length ∧ i = .int .i64 k ∧ Hid (Below w.heap.size w w') ∧ Hid (∀ j (hj : j < r.length), j < k → p r[j] = false)) (fun i _ => r.length - (Go.RowKit.intOf i).toNat)
  case atStart => exact ⟨0, Nat.zero_le _, rfl, hide (Below.refl _ _), hide (fun _ _ h => absurd h (Nat.not_lt_zero _))⟩
  case round =>
    obtain ⟨k, hk, rfl, hb, hA⟩ := hrel
    by_cases hlt : k < r.length
    · obtain ⟨b1, off, rfl, hrow⟩ := ((unhide HS).keep (unhide hb)).at hlt
      have c0 := hrow.c k hlt
      have zk := hrow.z
      have q := hide (unhide HQ r[k] (List.getElem_mem hlt) wr ((unhide HB).trans ((unhide hb).mono hbw)))
      have eS : Hid (p r[k] = false → ∀ j (hj : j < r.length), j < k + 1 → p r[j] = false) := hide (fun g j hj h => by
        rcases Nat.lt_or_ge j k with h1 | h1
        · exact unhide hA j hj h1
        · obtain rfl : j = k := by omega
          exact g)
      have eF : Hid (p r[k] = true → FstP p r (k : Int)) := hide (fun g => .inl ⟨k, hlt, rfl, g, unhide hA⟩)
      clear hrow
      generalize r[k] = A at c0 q eS eF
      cases hg : p A
      · rw [hg] at q
        have S := hide (unhide eS hg)
        clear hg eS eF
        go_wp2_with fail
        refine (unhide q).mono ?_
        rintro e w1 ⟨rfl, hb1⟩
        have B1 := hide (bTr (unhide hb) hb1)
        clear hb1 q c0
        go_wp2_with fail
        exact ⟨⟨k + 1, by omega, by go_num, B1, S⟩, by simp [Go.RowKit.intOf]; omega⟩
      · rw [hg] at q
        have S := hide (unhide eF hg)
        clear hg eS eF
        go_wp2_with fail
        refine (unhide q).mono ?_
        rintro e w1 ⟨rfl, hb1⟩
        have B1 := hide (bTr (unhide hb) hb1)
        clear hb1 q c0
        go_wp2_with fail
        go_ret
        exact ⟨⟨_, rfl, unhide S⟩, unhide B1⟩
    · have S : Hid (FstP p r (-1)) := hide (.inr ⟨rfl, fun x hx => by obtain ⟨j, hj, rfl⟩ := List.getElem_of_mem hx; exact unhide hA j hj (by omega)⟩)
      go_wp2_with fail
      go_ret
      exact ⟨⟨_, rfl, unhide S⟩, unhide hb⟩

set_option maxRecDepth 100000 in
set_option maxHeartbeats 2000000 in
theorem deleteGrp_any (p : Bs → Bool) (base : Nat) (w0 w : World) (hB : Below base w0 w) (hbw : base ≤ w.heap.size) (v : Value) (r : List Bs) (ho : w.ownsRow base 9 1 v r.length (r.map Value.string)) (hl : r.length ≤ 100000)
    (q : ∀ x ∈ r, ∀ w' : World, Below base w0 w' → Calls Try.prog 67 #[.string x] w' fun e w'' => e = .returned (.bool (p x)) ∧ Below w'.heap.size w' w'') :
    Calls Try.prog 65 #[v, .func (.func 67) #[] #[]] w fun e w' => (∃ v', e = .returned v' ∧ w'.ownsRow base 9 1 v' (r.filter fun x => !p x).length ((r.filter fun x => !p x).map Value.string)) ∧ Below base w0 w' := by
  have HO := hide ho
  have HQ := hide q
  have qi := hide (indexGrp_any p base w0 w hB hbw v r ho hl q)
  have HB := hide hB
  clear ho q hB
  go_enter Try.func65, Try.ntmps65
  go_wp2_with fail
  refine (unhide qi).mono ?_
  rintro e w1 ⟨⟨i, rfl, hi⟩, hb⟩
  have O1 := hide (own_keep (unhide HO) hb)
  have B1 := hide ((unhide HB).trans (hb.mono hbw))
  have z1 : base ≤ w1.heap.size := Nat.le_trans hbw hb.size
  clear hb qi HO HB
  rcases hi with ⟨k, hk, rfl, hp, hn⟩ | ⟨rfl, hn⟩
  · obtain ⟨g, cap, rfl, hg⟩ := own_some (unhide O1) (by omega)
    have D0 := hide (DelAt.start hk hp hn)
    have dk : ((k : Int) == -1) = false := by simp
    clear hp hn
    go_wp2_with fail
    go_loopw [5, 6] (fun i j wr => ∃ (a b : Nat) (M : List Bs), i = .int .i64 a ∧ j = .int .i64 b ∧ Hid (wr.ownsRow base 9 1 (.slice (some ⟨g, 0, none⟩) r.length cap) r.length (M.map Value.string)) ∧ Hid (DelAt p r b a M) ∧ Hid (Below base w0 wr) ∧ base ≤ wr.heap.size) (fun _ j _ => r.length - (Go.RowKit.intOf j).toNat)
    case atStart => exact ⟨k, k + 1, r, rfl, by go_num, O1, D0, B1, z1⟩
    case round =>
      clear O1 D0 B1 z1 dk
      obtain ⟨a, b, M, rfl, rfl, hO, hD, hB, hz⟩ := hrel
      have hle := (unhide hD).le
      have hlt0 := (unhide hD).lt
      have hln := (unhide hD).len
      by_cases hlt : b < r.length
      · have hbM : b < M.length := by omega
        have c0 : wr.cell? ⟨g, b, none⟩ = some (.string r[b]) := by
          rw [(unhide hO).cellAt b (by omega)]
          simp [hbM, (unhide hD).rest b hlt hbM (Nat.le_refl _)]
        have ca : (wr.cell? ⟨g, a, none⟩).isSome = true := by
          rw [(unhide hO).cellAt a (by omega)]
          simp; omega
        have zg : g < wr.heap.size := ((unhide hO).lt g rfl).2
        have q := hide (unhide HQ r[b] (List.getElem_mem hlt) wr (unhide hB))
        have eS := hide (fun h => (unhide hD).skip hlt h)
        have eT := hide (fun h => (unhide hD).take hlt h)
        clear hD
        generalize r[b] = A at c0 q eS eT
        cases hx : p A
        · rw [hx] at q
          replace eT := hide (unhide eT hx)
          clear hx eS
          go_wp2_with fail
          refine (unhide q).mono ?_
          rintro e w2 ⟨rfl, hb2⟩
          have O2 := hide (own_keep (unhide hO) hb2)
          have B2 := hide ((unhide hB).trans (hb2.mono hz))
          have z2 := Nat.le_trans hz hb2.size
          have f2 := (unhide O2).frozenAt a
          obtain ⟨u, hu⟩ := Option.isSome_iff_exists.1 (show (w2.cell? ⟨g, a, none⟩).isSome = true by rw [hb2.cell zg]; exact ca)
          have St := hide ((unhide O2).stored a (.string A))
          clear hb2 q c0 ca hO hB O2
          go_wp2_with fail
          exact ⟨⟨a + 1, b + 1, M.set a A, by go_num, by go_num, hide (by rw [map_set_str]; exact (unhide St).1), eT, hide ((unhide B2).grown (unhide St).2 z2 (fun j h => by cases h; exact hg)), by simpa using z2⟩, by simp [Go.RowKit.intOf]; omega⟩
        · rw [hx] at q
          replace eS := hide (unhide eS hx)
          clear hx eT
          go_wp2_with fail
          refine (unhide q).mono ?_
          rintro e w2 ⟨rfl, hb2⟩
          have O2 := hide (own_keep (unhide hO) hb2)
          have B2 := hide ((unhide hB).trans (hb2.mono hz))
          have z2 := Nat.le_trans hz hb2.size
          clear hb2 q c0 ca hO hB
          go_wp2_with fail
          exact ⟨⟨a, b + 1, M, rfl, by go_num, O2, eS, B2, z2⟩, by simp [Go.RowKit.intOf]; omega⟩
      · obtain rfl : b = r.length := by omega
        have zg : g < wr.heap.size := ((unhide hO).lt g rfl).2
        have eN := hide (unhide hD).end_
        have hcl : ∀ ty, (Builtin.clear_ #[45] ty #[.slice (some ⟨g, a, none⟩) (r.length - a) (cap - a)]).run Try.prog wr = .ok (.tuple #[]) (wr.setCells g a (List.replicate (r.length - a) (.string ByteArray.empty))) :=
          fun ty => Lib.run_clear_slice wr _ _ ty _ Try.underlying45 zeroStr rfl rfl g a _ _ (by omega) (fun t ht => by rw [(unhide hO).cellAt (a + t) (by omega)]; simp; omega) (fun t ht => (unhide hO).frozenAt _)
        obtain ⟨ys, y1, y2, y3⟩ := own_setCells (List.replicate (r.length - a) (.string ByteArray.empty)) a wr _ (unhide hO)
        have hcap : r.length ≤ cap := by
          rcases (unhide hO).2 with ⟨h, _⟩ | ⟨g', cap', cur, h, _, _, h2, _⟩
          · cases h
          · cases h; exact h2
        have FIN := hide (show (wr.setCells g a (List.replicate (r.length - a) (.string ByteArray.empty))).ownsRow base 9 1 (.slice (some ⟨g, 0, none⟩) a cap) (r.filter fun x => !p x).length ((r.filter fun x => !p x).map Value.string) ∧ Below base w0 (wr.setCells g a (List.replicate (r.length - a) (.string ByteArray.empty))) from by
          have h1 := own_cut y1 (i := a) (by omega)
          rw [y2 a (Nat.le_refl _), ← List.map_take, unhide eN] at h1
          have h2 : (r.filter fun x => !p x).length = a := by rw [← unhide eN, List.length_take]; omega
          rw [h2]
          exact ⟨h1, (unhide hB).grown y3 hz (fun j h => by cases h; exact hg)⟩)
        clear y1 y2 y3 hO hD hB eN
        generalize wr.setCells g a (List.replicate (r.length - a) (.string ByteArray.empty)) = w5 at hcl FIN
        go_wp2_with fail
        go_ret
        exact ⟨⟨_, rfl, (unhide FIN).1⟩, (unhide FIN).2⟩
  · have eN := hide (show (r.filter fun x => !p x) = r from List.filter_eq_self.2 fun x hx => by rw [hn x hx]; rfl)
    clear hn
    go_wp2_with fail
    go_ret
    exact ⟨⟨_, rfl, by rw [unhide eN]; exact unhide O1⟩, unhide B1⟩

set_option maxHeartbeats 1000000 in
theorem indexLoop_any (bx : Nat) (p : Bs → Bool) (base : Nat) (w0 w : World) (hB : Below base w0 w) (hbw : base ≤ w.heap.size) (v : Value) (r : List Bs) (ho : w.ownsRow base 9 1 v r.length (r.map Value.string)) (hl : r.length ≤ 100000)
    (q : ∀ x ∈ r, ∀ w' : World, Below base w0 w' → Calls Try.prog 95 #[.string x, .pointer (some ⟨bx, 0, none⟩)] w' fun e w'' => e = .returned (.bool (p x)) ∧ Below w'.heap.size w' w'') :
    Calls Try.prog 88 #[v, .func (.func 95) #[] #[.pointer (some ⟨bx, 0, none⟩)]] w fun e w' => (∃ i, e = .returned (.int .i64 i) ∧ FstP p r i) ∧ Below w.heap.size w w' := by
  obtain ⟨a, cap, rfl, hs⟩ := own_strs ho
  have HS := hide hs
  have HQ := hide q
  have HB := hide hB
  clear hs ho q hB
  go_enter Try.func88, Try.ntmps88
  go_wp2_with fail
  go_loopw [8] (fun i w' => ∃ k : Nat, k ≤ r.length ∧ i = .int .i64 k ∧ Hid (Below w.heap.size w w') ∧ Hid (∀ j (hj : j < r.length), j < k → p r[j] = false)) (fun i _ => r.length - (Go.RowKit.intOf i).toNat)
  case atStart => exact ⟨0, Nat.zero_le _, rfl, hide (Below.refl _ _), hide (fun _ _ h => absurd h (Nat.not_lt_zero _))⟩
  case round =>
    obtain ⟨k, hk, rfl, hb, hA⟩ := hrel
    by_cases hlt : k < r.length
    · obtain ⟨b1, off, rfl, hrow⟩ := ((unhide HS).keep (unhide hb)).at hlt
      have c0 := hrow.c k hlt
      have zk := hrow.z
      have q := hide (unhide HQ r[k] (List.getElem_mem hlt) wr ((unhide HB).trans ((unhide hb).mono hbw)))
      have eS : Hid (p r[k] = false → ∀ j (hj : j < r.length), j < k + 1 → p r[j] = false) := hide (fun g j hj h => by
        rcases Nat.lt_or_ge j k with h1 | h1
        · exact unhide hA j hj h1
        · obtain rfl : j = k := by omega
          exact g)
      have eF : Hid (p r[k] = true → FstP p r (k : Int)) := hide (fun g => .inl ⟨k, hlt, rfl, g, unhide hA⟩)
      clear hrow
      generalize r[k] = A at c0 q eS eF
      cases hg : p A
      · rw [hg] at q
        have S := hide (unhide eS hg)
        clear hg eS eF
        go_wp2_with fail
        refine (unhide q).mono ?_
        rintro e w1 ⟨rfl, hb1⟩
        have B1 := hide (bTr (unhide hb) hb1)
        clear hb1 q c0
        go_wp2_with fail
        exact ⟨⟨k + 1, by omega, by go_num, B1, S⟩, by simp [Go.RowKit.intOf]; omega⟩
      · rw [hg] at q
        have S := hide (unhide eF hg)
        clear hg eS eF
        go_wp2_with fail
        refine (unhide q).mono ?_
        rintro e w1 ⟨rfl, hb1⟩
        have B1 := hide (bTr (unhide hb) hb1)
        clear hb1 q c0
        go_wp2_with fail
        go_ret
        exact ⟨⟨_, rfl, unhide S⟩, unhide B1⟩
    · have S : Hid (FstP p r (-1)) := hide (.inr ⟨rfl, fun x hx => by obtain ⟨j, hj, rfl⟩ := List.getElem_of_mem hx; exact unhide hA j hj (by omega)⟩)
      go_wp2_with fail
      go_ret
      exact ⟨⟨_, rfl, unhide S⟩, unhide hb⟩

set_option maxRecDepth 100000 in
set_option maxHeartbeats 2000000 in
theorem deleteLoop_any (bx : Nat) (p : Bs → Bool) (base : Nat) (w0 w : World) (hB : Below base w0 w) (hbw : base ≤ w.heap.size) (v : Value) (r : List Bs) (ho : w.ownsRow base 9 1 v r.length (r.map Value.string)) (hl : r.length ≤ 100000)
    (q : ∀ x ∈ r, ∀ w' : World, Below base w0 w' → Calls Try.prog 95 #[.string x, .pointer (some ⟨bx, 0, none⟩)] w' fun e w'' => e = .returned (.bool (p x)) ∧ Below w'.heap.size w' w'') :
    Calls Try.prog 65 #[v, .func (.func 95) #[] #[.pointer (some ⟨bx, 0, none⟩)]] w fun e w' => (∃ v', e = .returned v' ∧ w'.ownsRow base 9 1 v' (r.filter fun x => !p x).length ((r.filter fun x => !p x).map Value.string)) ∧ Below base w0 w' := by
  have HO := hide ho
  have HQ := hide q
  have qi := hide (indexLoop_any bx p base w0 w hB hbw v r ho hl q)
  have HB := hide hB
  clear ho q hB
  go_enter Try.func65, Try.ntmps65
  go_wp2_with fail
  refine (unhide qi).mono ?_
  rintro e w1 ⟨⟨i, rfl, hi⟩, hb⟩
  have O1 := hide (own_keep (unhide HO) hb)
  have B1 := hide ((unhide HB).trans (hb.mono hbw))
  have z1 : base ≤ w1.heap.size := Nat.le_trans hbw hb.size
  clear hb qi HO HB
  rcases hi with ⟨k, hk, rfl, hp, hn⟩ | ⟨rfl, hn⟩
  · obtain ⟨g, cap, rfl, hg⟩ := own_some (unhide O1) (by omega)
    have D0 := hide (DelAt.start hk hp hn)
    have dk : ((k : Int) == -1) = false := by simp
    clear hp hn
    go_wp2_with fail
    go_loopw [5, 6] (fun i j wr => ∃ (a b : Nat) (M : List Bs), i = .int .i64 a ∧ j = .int .i64 b ∧ Hid (wr.ownsRow base 9 1 (.slice (some ⟨g, 0, none⟩) r.length cap) r.length (M.map Value.string)) ∧ Hid (DelAt p r b a M) ∧ Hid (Below base w0 wr) ∧ base ≤ wr.heap.size) (fun _ j _ => r.length - (Go.RowKit.intOf j).toNat)
    case atStart => exact ⟨k, k + 1, r, rfl, by go_num, O1, D0, B1, z1⟩
    case round =>
      clear O1 D0 B1 z1 dk
      obtain ⟨a, b, M, rfl, rfl, hO, hD, hB, hz⟩ := hrel
      have hle := (unhide hD).le
      have hlt0 := (unhide hD).lt
      have hln := (unhide hD).len
      by_cases hlt : b < r.length
      · have hbM : b < M.length := by omega
        have c0 : wr.cell? ⟨g, b, none⟩ = some (.string r[b]) := by
          rw [(unhide hO).cellAt b (by omega)]
          simp [hbM, (unhide hD).rest b hlt hbM (Nat.le_refl _)]
        have ca : (wr.cell? ⟨g, a, none⟩).isSome = true := by
          rw [(unhide hO).cellAt a (by omega)]
          simp; omega
        have zg : g < wr.heap.size := ((unhide hO).lt g rfl).2
        have q := hide (unhide HQ r[b] (List.getElem_mem hlt) wr (unhide hB))
        have eS := hide (fun h => (unhide hD).skip hlt h)
        have eT := hide (fun h => (unhide hD).take hlt h)
        clear hD
        generalize r[b] = A at c0 q eS eT
        cases hx : p A
        · rw [hx] at q
          replace eT := hide (unhide eT hx)
          clear hx eS
          go_wp2_with fail
          refine (unhide q).mono ?_
          rintro e w2 ⟨rfl, hb2⟩
          have O2 := hide (own_keep (unhide hO) hb2)
          have B2 := hide ((unhide hB).trans (hb2.mono hz))
          have z2 := Nat.le_trans hz hb2.size
          have f2 := (unhide O2).frozenAt a
          obtain ⟨u, hu⟩ := Option.isSome_iff_exists.1 (show (w2.cell? ⟨g, a, none⟩).isSome = true by rw [hb2.cell zg]; exact ca)
          have St := hide ((unhide O2).stored a (.string A))
          clear hb2 q c0 ca hO hB O2
          go_wp2_with fail
          exact ⟨⟨a + 1, b + 1, M.set a A, by go_num, by go_num, hide (by rw [map_set_str]; exact (unhide St).1), eT, hide ((unhide B2).grown (unhide St).2 z2 (fun j h => by cases h; exact hg)), by simpa using z2⟩, by simp [Go.RowKit.intOf]; omega⟩
        · rw [hx] at q
          replace eS := hide (unhide eS hx)
          clear hx eT
          go_wp2_with fail
          refine (unhide q).mono ?_
          rintro e w2 ⟨rfl, hb2⟩
          have O2 := hide (own_keep (unhide hO) hb2)
          have B2 := hide ((unhide hB).trans (hb2.mono hz))
          have z2 := Nat.le_trans hz hb2.size
          clear hb2 q c0 ca hO hB
          go_wp2_with fail
          exact ⟨⟨a, b + 1, M, rfl, by go_num, O2, eS, B2, z2⟩, by simp [Go.RowKit.intOf]; omega⟩
      · obtain rfl : b = r.length := by omega
        have zg : g < wr.heap.size := ((unhide hO).lt g rfl).2
        have eN := hide (unhide hD).end_
        have hcl : ∀ ty, (Builtin.clear_ #[45] ty #[.slice (some ⟨g, a, none⟩) (r.length - a) (cap - a)]).run Try.prog wr = .ok (.tuple #[]) (wr.setCells g a (List.replicate (r.length - a) (.string ByteArray.empty))) :=
          fun ty => Lib.run_clear_slice wr _ _ ty _ Try.underlying45 zeroStr rfl rfl g a _ _ (by omega) (fun t ht => by rw [(unhide hO).cellAt (a + t) (by omega)]; simp; omega) (fun t ht => (unhide hO).frozenAt _)
        obtain ⟨ys, y1, y2, y3⟩ := own_setCells (List.replicate (r.length - a) (.string ByteArray.empty)) a wr _ (unhide hO)
        have hcap : r.length ≤ cap := by
          rcases (unhide hO).2 with ⟨h, _⟩ | ⟨g', cap', cur, h, _, _, h2, _⟩
          · cases h
          · cases h; exact h2
        have FIN := hide (show (wr.setCells g a (List.replicate (r.length - a) (.string ByteArray.empty))).ownsRow base 9 1 (.slice (some ⟨g, 0, none⟩) a cap) (r.filter fun x => !p x).length ((r.filter fun x => !p x).map Value.string) ∧ Below base w0 (wr.setCells g a (List.replicate (r.length - a) (.string ByteArray.empty))) from by
          have h1 := own_cut y1 (i := a) (by omega)
          rw [y2 a (Nat.le_refl _), ← List.map_take, unhide eN] at h1
          have h2 : (r.filter fun x => !p x).length = a := by rw [← unhide eN, List.length_take]; omega
          rw [h2]
          exact ⟨h1, (unhide hB).grown y3 hz (fun j h => by cases h; exact hg)⟩)
        clear y1 y2 y3 hO hD hB eN
        generalize wr.setCells g a (List.replicate (r.length - a) (.string ByteArray.empty)) = w5 at hcl FIN
        go_wp2_with fail
        go_ret
        exact ⟨⟨_, rfl, (unhide FIN).1⟩, (unhide FIN).2⟩
  · have eN := hide (show (r.filter fun x => !p x) = r from List.filter_eq_self.2 fun x hx => by rw [hn x hx]; rfl)
    clear hn
    go_wp2_with fail
    go_ret
    exact ⟨⟨_, rfl, by rw [unhide eN]; exact unhide O1⟩, unhide B1⟩

set_option maxHeartbeats 1000000 in
theorem indexWay_any (bx by_ : Nat) (p : Bs → Bool) (base : Nat) (w0 w : World) (hB : Below base w0 w) (hbw : base ≤ w.heap.size) (v : Value) (r : List Bs) (ho : w.ownsRow base 9 1 v r.length (r.map Value.string)) (hl : r.length ≤ 100000)
    (q : ∀ x ∈ r, ∀ w' : World, Below base w0 w' → Calls Try.prog 93 #[.string x, .pointer (some ⟨bx, 0, none⟩), .pointer (some ⟨by_, 0, none⟩)] w' fun e w'' => e = .returned (.bool (p x)) ∧ Below w'.heap.size w' w'') :
    Calls Try.prog 88 #[v, .func (.func 93) #[] #[.pointer (some ⟨bx, 0, none⟩), .pointer (some ⟨by_, 0, none⟩)]] w fun e w' => (∃ i, e = .returned (.int .i64 i) ∧ FstP p r i) ∧ Below w.heap.size w w' := by
  obtain ⟨a, cap, rfl, hs⟩ := own_strs ho
  have HS := hide hs
  have HQ := hide q
  have HB := hide hB
  clear hs ho q hB
  go_enter Try.func88, Try.ntmps88
  go_wp2_with fail
  go_loopw [8] (fun i w' => ∃ k : Nat, k ≤ r.length ∧ i = .int .i64 k ∧ Hid (Below w.heap.size w w') ∧ Hid (∀ j (hj : j < r.length), j < k → p r[j] = false)) (fun i _ => r.length - (Go.RowKit.intOf i).toNat)
  case atStart => exact ⟨0, Nat.zero_le _, rfl, hide (Below.refl _ _), hide (fun _ _ h => absurd h (Nat.not_lt_zero _))⟩
  case round =>
    obtain ⟨k, hk, rfl, hb, hA⟩ := hrel
    by_cases hlt : k < r.length
    · obtain ⟨b1, off, rfl, hrow⟩ := ((unhide HS).keep (unhide hb)).at hlt
      have c0 := hrow.c k hlt
      have zk := hrow.z
      have q := hide (unhide HQ r[k] (List.getElem_mem hlt) wr ((unhide HB).trans ((unhide hb).mono hbw)))
      have eS : Hid (p r[k] = false → ∀ j (hj : j < r.length), j < k + 1 → p r[j] = false) := hide (fun g j hj h => by
        rcases Nat.lt_or_ge j k with h1 | h1
        · exact unhide hA j hj h1
        · obtain rfl : j = k := by omega
          exact g)
      have eF : Hid (p r[k] = true → FstP p r (k : Int)) := hide (fun g => .inl ⟨k, hlt, rfl, g, unhide hA⟩)
      clear hrow
      generalize r[k] = A at c0 q eS eF
      cases hg : p A
      · rw [hg] at q
        have S := hide (unhide eS hg)
        clear hg eS eF
        go_wp2_with fail
        refine (unhide q).mono ?_
        rintro e w1 ⟨rfl, hb1⟩
        have B1 := hide (bTr (unhide hb) hb1)
        clear hb1 q c0
        go_wp2_with fail
        exact ⟨⟨k + 1, by omega, by go_num, B1, S⟩, by simp [Go.RowKit.intOf]; omega⟩
      · rw [hg] at q
        have S := hide (unhide eF hg)
        clear hg eS eF
        go_wp2_with fail
        refine (unhide q).mono ?_
        rintro e w1 ⟨rfl, hb1⟩
        have B1 := hide (bTr (unhide hb) hb1)
        clear hb1 q c0
        go_wp2_with fail
        go_ret
        exact ⟨⟨_, rfl, unhide S⟩, unhide B1⟩
    · have S : Hid (FstP p r (-1)) := hide (.inr ⟨rfl, fun x hx => by obtain ⟨j, hj, rfl⟩ := List.getElem_of_mem hx; exact unhide hA j hj (by omega)⟩)
      go_wp2_with fail
      go_ret
      exact ⟨⟨_, rfl, unhide S⟩, unhide hb⟩
end Go.Proofs.Ytakjnbdjjeccoaa
/- impl.GroupsOf, MembersOf, Loops. -/
namespace Go.Proofs.Ytakjnbdjjeccoaa
open Go.RowKit Go.Maps

theorem EdG.ok {l : List NestT} {x y : Bs} (h : EdG l x y) : x.size ≤ 30 ∧ y.size ≤ 30 := by
  obtain ⟨hG, i, hi, rfl, rfl⟩ := h
  have := hG.2.1 i hi hi
  unfold gNe gNest isGrp at this
  simp only [Bool.and_eq_true] at this
  exact ⟨goodName_le this.1.1, goodName_le this.2⟩
theorem EdG.grp {l : List NestT} {x y : Bs} (h : EdG l x y) : isGrp x = true := by
  obtain ⟨hG, i, hi, rfl, rfl⟩ := h
  have := hG.2.1 i hi hi
  unfold gNe gNest at this
  simp only [Bool.and_eq_true] at this
  exact this.1
theorem dist_first {B : Type} {E : B → B → Prop} {a b : B} {n : Nat} (h : Dist E a b n) : ∃ c, E a c := by
  obtain ⟨h1, h2, _⟩ := h
  obtain ⟨m, rfl⟩ : ∃ m, n = m + 1 := ⟨n - 1, by omega⟩
  obtain ⟨c, hc, _⟩ := h2.head
  exact ⟨c, hc⟩
theorem dist_last {B : Type} {E : B → B → Prop} {a b : B} {n : Nat} (h : Dist E a b n) : ∃ c, E c b := by
  obtain ⟨h1, h2, _⟩ := h
  obtain ⟨m, rfl⟩ : ∃ m, n = m + 1 := ⟨n - 1, by omega⟩
  obtain ⟨c, _, hc⟩ := h2
  exact ⟨c, hc⟩
/-- b is in a. -/
def Inn (l : List NestT) (a b : Bs) : Prop := ∃ n, Dist (EdG l) a b n
theorem intM_isSome (L : Bs → Option Nat) (x : Bs) : (intM L x).isSome = (L x).isSome := by unfold intM; cases L x <;> rfl
theorem isSome_iff {L : Bs → Option Nat} {x : Bs} : (L x).isSome = true ↔ ∃ k, L x = some k := Option.isSome_iff_exists

/-- What GroupsOf, MembersOf, Loops tell. -/
def PGrp (l : List NestT) (m : Bs) (r : List Bs) : Prop := RisS r ∧ ∀ g, g ∈ r ↔ Inn l g m
def PMem (l : List NestT) (g : Bs) (r : List Bs) : Prop := RisS r ∧ ∀ m, m ∈ r ↔ Inn l g m ∧ isGrp m = false
def PLoo (l : List NestT) (r : List Bs) : Prop := RisS r ∧ ∀ g, g ∈ r ↔ Inn l g g

theorem own_base {w : World} {base base' e size : Nat} {v : Value} {n : Nat} {xs : List Value} (h : w.ownsRow base e size v n xs) (hb : base' ≤ base) : w.ownsRow base' e size v n xs := by
  refine ⟨h.1, h.2.imp_right ?_⟩
  rintro ⟨g, cap, cur, h1, h2, h3⟩
  exact ⟨g, cap, cur, h1, by omega, h3⟩

set_option maxHeartbeats 1000000 in
theorem iGroupsOf_any (a : Option Addr) (len cap : Nat) (l : List NestT) (m : Bs) (w : World) (hl : len ≤ maxLen) (hs : SlNest w a len l) (hok : ∀ q ∈ l, NestT.Ok q) (hm : m.size ≤ 1048576) :
    Calls Try.prog 37 #[.slice a len cap, .string m] w fun e w' => (∃ v r, e = .returned v ∧ PGrp l m r ∧ w'.ownsRow w.heap.size 9 1 v r.length (r.map Value.string)) ∧ Below w.heap.size w w' := by
  have q := hide (nestGraph_any a len cap l w hl hs hok)
  have hm' : m.size ≤ maxLen := by unfold maxLen; omega
  clear hs hok hl
  go_enter Try.func37, Try.ntmps37
  go_wp2_with fail
  refine (unhide q).mono ?_
  rintro e w1 ⟨⟨bg, es, tab, rfl, hG, hE, hL⟩, hb1⟩
  have HE := hide hE
  have q2 := hide (turned_any w.heap.size bg 1000 es tab w1 hG hL)
  have B1 := hide hb1
  clear q hG hE hL hb1
  go_wp2_with fail
  refine (unhide q2).mono ?_
  rintro e w2 ⟨⟨bg2, es2, tab2, rfl, hG2, hE2, hL2⟩, hb2⟩
  have HE2 := hide hE2
  have q3 := hide (steps_any w1.heap.size bg2 1000 es2 tab2 m w2 hG2 hL2 hm')
  have B2 := hide (bTr (unhide B1) hb2)
  clear q2 hG2 hE2 hL2 hb2 B1
  go_wp2_with fail
  refine (unhide q3).mono ?_
  rintro e w3 ⟨⟨bl, L, rfl, _, hK, hD⟩, hb3⟩
  have HD := hide (show ∀ b k, L b = some k ↔ Dist (EdG l) b m k from fun b k => by
    rw [hD b k]
    exact (dist_congr (fun x y => (unhide HE2 x y).trans (unhide HE y x))).trans (dist_flip (E := EdG l)))
  have q4 := hide (keysInt_any bl 1000 (intM L) w3 hK (by omega))
  have B3 := hide (bTr (unhide B2) hb3)
  clear q3 hK hD hb3 B2 HE HE2
  go_wp2_with fail
  refine (unhide q4).mono ?_
  rintro e w4 ⟨⟨v, r, rfl, hr, hx, _, ho⟩, hb4⟩
  have FIN := hide (show PGrp l m r ∧ w4.ownsRow w.heap.size 9 1 v r.length (r.map Value.string) from ⟨⟨hr, fun g => by
    rw [hx g, intM_isSome, isSome_iff]
    constructor
    · rintro ⟨_, k, hk⟩; exact ⟨k, (unhide HD g k).1 hk⟩
    · rintro ⟨k, hk⟩
      obtain ⟨c, hc⟩ := dist_first hk
      exact ⟨by have := hc.ok.1; unfold maxLen; omega, k, (unhide HD g k).2 hk⟩⟩, own_base ho (unhide B3).size⟩)
  have B4 := hide (bTr (unhide B3) hb4)
  clear q4 hr hx ho hb4 B3 HD
  go_wp2_with fail
  go_ret
  exact ⟨⟨v, r, rfl, unhide FIN⟩, unhide B4⟩

set_option maxHeartbeats 1000000 in
theorem iMembersOf_any (a : Option Addr) (len cap : Nat) (l : List NestT) (m : Bs) (w : World) (hl : len ≤ maxLen) (hs : SlNest w a len l) (hok : ∀ q ∈ l, NestT.Ok q) (hm : m.size ≤ 1048576) :
    Calls Try.prog 32 #[.slice a len cap, .string m] w fun e w' => (∃ v r, e = .returned v ∧ PMem l m r ∧ w'.ownsRow w.heap.size 9 1 v r.length (r.map Value.string)) ∧ Below w.heap.size w w' := by
  have q := hide (nestGraph_any a len cap l w hl hs hok)
  have hm' : m.size ≤ maxLen := by unfold maxLen; omega
  clear hs hok hl
  go_enter Try.func32, Try.ntmps32
  go_wp2_with fail
  refine (unhide q).mono ?_
  rintro e w2 ⟨⟨bg, es, tab, rfl, hG, hE, hL⟩, hb1⟩
  have HE := hide hE
  have q3 := hide (steps_any w.heap.size bg 1000 es tab m w2 hG hL hm')
  have B2 := hide hb1
  clear q hG hE hL hb1
  go_wp2_with fail
  refine (unhide q3).mono ?_
  rintro e w3 ⟨⟨bl, L, rfl, _, hK, hD⟩, hb3⟩
  have HD := hide (show ∀ b k, L b = some k ↔ Dist (EdG l) m b k from fun b k => by
    rw [hD b k]
    exact dist_congr (fun x y => unhide HE x y))
  have q4 := hide (keysInt_any bl 1000 (intM L) w3 hK (by omega))
  have B3 := hide (bTr (unhide B2) hb3)
  clear q3 hK hD hb3 B2 HE
  go_wp2_with fail
  refine (unhide q4).mono ?_
  rintro e w4 ⟨⟨v, r, rfl, hr, hx, hn, ho⟩, hb4⟩
  have HX := hide hx
  have HR := hide hr
  have q5 := hide (deleteGrp_any isGrp w3.heap.size w3 w4 hb4 hb4.size v r ho (by omega) (fun x h w' _ => isGroup_any x ((hx x).1 h).1 w'))
  clear q4 hr hx ho hb4 hn
  go_wp2_with fail
  refine (unhide q5).mono ?_
  rintro e w5 ⟨⟨v', rfl, ho⟩, hb5⟩
  have FIN := hide (show PMem l m (r.filter fun x => !isGrp x) ∧ w5.ownsRow w.heap.size 9 1 v' (r.filter fun x => !isGrp x).length ((r.filter fun x => !isGrp x).map Value.string) from ⟨⟨(unhide HR).filter _, fun g => by
    rw [List.mem_filter, unhide HX g, intM_isSome, isSome_iff]
    constructor
    · rintro ⟨⟨_, k, hk⟩, hg⟩; exact ⟨⟨k, (unhide HD g k).1 hk⟩, by simpa using hg⟩
    · rintro ⟨⟨k, hk⟩, hg⟩
      obtain ⟨c, hc⟩ := dist_last hk
      exact ⟨⟨by have := hc.ok.2; unfold maxLen; omega, k, (unhide HD g k).2 hk⟩, by rw [hg]; rfl⟩⟩, own_base ho (unhide B3).size⟩)
  have B5 := hide (bTr (unhide B3) hb5)
  clear q5 ho hb5 B3 HD HR HX
  go_wp2_with fail
  go_ret
  exact ⟨⟨v', _, rfl, unhide FIN⟩, unhide B5⟩

/-- Whether node lies on no loop. -/
noncomputable def noLoop (es : List (Bs × Bs)) (x : Bs) : Bool := @decide (¬ ∃ k, Dist (fun x y => (x, y) ∈ es) x x k) (Classical.propDecidable _)
theorem noLoop_yes {es : List (Bs × Bs)} {x : Bs} : noLoop es x = true ↔ ¬ ∃ k, Dist (fun x y => (x, y) ∈ es) x x k := by
  unfold noLoop
  exact @decide_eq_true_iff _ (Classical.propDecidable _)
theorem noLoop_no {es : List (Bs × Bs)} {x : Bs} : noLoop es x = false ↔ ∃ k, Dist (fun x y => (x, y) ∈ es) x x k := by
  have := noLoop_yes (es := es) (x := x)
  constructor
  · intro h
    exact Classical.byContradiction fun hn => by rw [this.2 hn] at h; cases h
  · intro h
    cases hx : noLoop es x
    · rfl
    · exact absurd h (this.1 hx)

set_option maxHeartbeats 1000000 in
theorem loopFn_any (lo bg n bx : Nat) (es : List (Bs × Bs)) (tab : Bs → Option Nat) (x : Bs) (w : World) (hG : GM w lo bg n es tab) (hes : es.length ≤ 200) (hx : x.size ≤ maxLen) (hc : w.cell? ⟨bx, 0, none⟩ = some (.map (some bg))) :
    Calls Try.prog 95 #[.string x, .pointer (some ⟨bx, 0, none⟩)] w fun e w' => e = .returned (.bool (noLoop es x)) ∧ Below w.heap.size w w' := by
  have q := hide (steps_any lo bg n es tab x w hG hes hx)
  clear hG
  go_enter Try.func95, Try.ntmps95
  go_wp2_with fail
  refine (unhide q).mono ?_
  rintro e w1 ⟨⟨bl, L, rfl, _, hK, hD⟩, hb1⟩
  have HK := hide hK
  have B1 := hide hb1
  clear hK hb1 q hc
  cases hL : L x with
  | none =>
    have el := hide (show (intM L x).getD (.int .i64 0) = .int .i64 0 by simp [intM, hL])
    have en := hide (show noLoop es x = true from by
      rw [noLoop_yes]
      rintro ⟨k, hk⟩
      have := (hD x k).2 hk
      rw [hL] at this; cases this)
    clear hD hL
    go_wp2_with (at_lookup; refine wpList_get_km _ kStr rfl _ _ _ rfl _ Try.underlying63 (zeroInt _) bl 1000 _ rfl (unhide HK) x rfl hx _ (unhide el) ?_)
    go_ret
    exact ⟨ret_bool (unhide en).symm, unhide B1⟩
  | some k =>
    have el := hide (show (intM L x).getD (.int .i64 0) = .int .i64 (k : Int) by simp [intM, hL])
    have hd := (hD x k).1 hL
    have k1 := hd.1
    have en := hide (show noLoop es x = false from by
      rw [noLoop_no]
      exact ⟨k, hd⟩)
    have dk : ((k : Int) == 0) = false := by simp; omega
    clear hD hL hd
    go_wp2_with (at_lookup; refine wpList_get_km _ kStr rfl _ _ _ rfl _ Try.underlying63 (zeroInt _) bl 1000 _ rfl (unhide HK) x rfl hx _ (unhide el) ?_)
    go_ret
    exact ⟨ret_bool (unhide en).symm, unhide B1⟩

set_option maxHeartbeats 1000000 in
theorem iLoops_any (a : Option Addr) (len cap : Nat) (l : List NestT) (w : World) (hl : len ≤ maxLen) (hs : SlNest w a len l) (hok : ∀ q ∈ l, NestT.Ok q) :
    Calls Try.prog 41 #[.slice a len cap] w fun e w' => (∃ v r, e = .returned v ∧ PLoo l r ∧ w'.ownsRow w.heap.size 9 1 v r.length (r.map Value.string)) ∧ Below w.heap.size w w' := by
  have q := hide (nestGraph_any a len cap l w hl hs hok)
  clear hs hok hl
  have qL : Hid (∀ (bg : Nat) (es : List (Bs × Bs)) (tab : Bs → Option Nat) (w1 : World), GM w1 w.heap.size bg 1000 es tab → es.length ≤ 200 → Calls Try.prog 73 #[.map (some bg)] w1 fun e w' => (∃ v r, e = .returned v ∧ (RisS r ∧ ∀ g, g ∈ r ↔ g.size ≤ maxLen ∧ (∃ x, (g, x) ∈ es) ∧ noLoop es g = false) ∧ w'.ownsRow w1.heap.size 9 1 v r.length (r.map Value.string)) ∧ Below w1.heap.size w1 w') := hide (by
    intro bg es tab w1 hG hes
    obtain ⟨W, hW⟩ : ∃ W, W = w1.alloc (.cells #[.map (some bg)] 60) := ⟨_, rfl⟩
    have g1 : w1.grownBy W none := by rw [hW]; exact World.grownBy_alloc _ _ _
    have HG := hide (hG.grown g1 (fun r h => by cases h))
    have HR := hide (show RowIs W w1.heap.size #[.map (some bg)] 60 by rw [hW]; exact RowIs.new _ _ _)
    have B0 := hide (show Below w1.heap.size w1 W by rw [hW]; exact bAl (Below.refl _ _) _)
    have HW := hide hW.symm
    have q1 := hide (keysGra_any bg 1000 (topM tab) W (unhide HG).top (by omega))
    clear hG hW g1
    have c0 := (unhide HR).at (o := 0) (v := .map (some bg)) rfl
    go_enter Try.func73, Try.ntmps73
    go_wp2_with fail
    rw [unhide HW]
    refine (unhide q1).mono ?_
    rintro e w2 ⟨⟨v, r, rfl, hr, hx, hn, ho⟩, hb2⟩
    have HX := hide hx
    have HRr := hide hr
    have q5 := hide (deleteLoop_any w1.heap.size (noLoop es) W.heap.size W w2 hb2 hb2.size v r ho (by omega) (fun x h w' hB => by
      have hz := (unhide HR).lt
      exact loopFn_any w.heap.size bg 1000 w1.heap.size es tab x w' ((unhide HG).keepB hB (Nat.le_refl _)) hes ((hx x).1 h).1 (by
        rw [hB.cell hz]; exact c0)))
    have HT := hide (unhide HG).has
    clear q1 hr hx ho hb2 hn c0 HR HW
    go_wp2_with fail
    refine (unhide q5).mono ?_
    rintro e w5 ⟨⟨v', rfl, ho⟩, hb5⟩
    have FIN := hide (show (RisS (r.filter fun x => !noLoop es x) ∧ ∀ g, g ∈ (r.filter fun x => !noLoop es x) ↔ g.size ≤ maxLen ∧ (∃ x, (g, x) ∈ es) ∧ noLoop es g = false) ∧ w5.ownsRow w1.heap.size 9 1 v' (r.filter fun x => !noLoop es x).length ((r.filter fun x => !noLoop es x).map Value.string) from ⟨⟨(unhide HRr).filter _, fun g => by
      rw [List.mem_filter, unhide HX g, ← unhide HT g]
      have e1 : (topM tab g).isSome = (tab g).isSome := by unfold topM; simp
      rw [e1]
      cases noLoop es g <;> simp⟩, own_base ho (unhide B0).size⟩)
    have B5 := hide (bTr (unhide B0) hb5)
    clear q5 ho hb5 B0 HX HRr
    go_wp2_with fail
    go_ret
    exact ⟨⟨v', _, rfl, unhide FIN⟩, unhide B5⟩)
  go_enter Try.func41, Try.ntmps41
  go_wp2_with fail
  refine (unhide q).mono ?_
  rintro e w1 ⟨⟨bg, es, tab, rfl, hG, hE, hL⟩, hb1⟩
  have HE := hide hE
  have B1 := hide hb1
  have q2 := hide (unhide qL bg es tab w1 hG hL)
  clear q qL hG hE hL hb1
  go_wp2_with fail
  refine (unhide q2).mono ?_
  rintro e w2 ⟨⟨v, r, rfl, ⟨hr, hx⟩, ho⟩, hb2⟩
  have FIN := hide (show PLoo l r ∧ w2.ownsRow w.heap.size 9 1 v r.length (r.map Value.string) from ⟨⟨hr, fun g => by
    rw [hx g]
    have hd : ∀ k, Dist (fun x y => (x, y) ∈ es) g g k ↔ Dist (EdG l) g g k := fun k => dist_congr (fun x y => unhide HE x y)
    constructor
    · rintro ⟨_, _, h⟩
      obtain ⟨k, hk⟩ := noLoop_no.1 h
      exact ⟨k, (hd k).1 hk⟩
    · rintro ⟨k, hk⟩
      obtain ⟨c, hc⟩ := dist_first hk
      refine ⟨by have := hc.ok.1; unfold maxLen; omega, ⟨c, (unhide HE g c).2 hc⟩, ?_⟩
      exact noLoop_no.2 ⟨k, (hd k).2 hk⟩⟩, own_base ho (unhide B1).size⟩)
  have B2 := hide (bTr (unhide B1) hb2)
  clear q2 hr hx ho hb2 B1 HE
  go_wp2_with fail
  go_ret
  exact ⟨⟨v, r, rfl, unhide FIN⟩, unhide B2⟩
end Go.Proofs.Ytakjnbdjjeccoaa
