/- impl.AttrType in memory, by what it holds: sized, copied, held against itself, read. -/
import Derived.Test.YtobmdeoppbjjpaaZRow
namespace Go.Proofs.Ytobmdeoppbjjpaa.V
set_option linter.unusedSimpArgs false
open Go.ChangeShapes Go.WideShapes Go.RowKit

structure AttrTypeT where
  f0 : ByteArray
  f1 : Int
  f2 : Bool
structure AttrTypeE where
  t : AttrTypeT

structure AttrTypeN (x : AttrTypeT) : Prop where
  o0 : x.f0.size ≤ maxLen
  tt : True
structure AttrTypeSm (x : AttrTypeT) : Prop where
  tt : True
structure AttrTypeM (w : World) (lo : Nat) (e : AttrTypeE) : Prop where
  tt : True
theorem AttrTypeM.fr {w w1 : World} {lo : Nat} {e : AttrTypeE} (h : AttrTypeM w lo e) (_hf : Fr lo w w1) : AttrTypeM w1 lo e := ⟨h.tt⟩
theorem AttrTypeM.lo {w : World} {lo lo' : Nat} {e : AttrTypeE} (h : AttrTypeM w lo e) (_hl : lo' ≤ lo) : AttrTypeM w lo' e := ⟨h.tt⟩
theorem AttrTypeM.keep {w w1 : World} {lo : Nat} {e : AttrTypeE} (h : AttrTypeM w lo e) (hb : Below w.heap.size w w1) : AttrTypeM w1 lo e := h.fr (Fr.below hb lo)
structure AttrTypeRow (w : World) (b off : Nat) (l : List AttrTypeE) : Prop where
  z : b < w.heap.size
  c0 : ∀ i (h : i < l.length), w.cell? ⟨b, off + i * 3, none⟩ = some (.string l[i].t.f0)
  c1 : ∀ i (h : i < l.length), w.cell? ⟨b, off + i * 3 + 1, none⟩ = some (.int .i64 l[i].t.f1)
  c2 : ∀ i (h : i < l.length), w.cell? ⟨b, off + i * 3 + 2, none⟩ = some (.bool l[i].t.f2)
theorem AttrTypeRow.fr {w w1 : World} {lo b off : Nat} {l : List AttrTypeE} (h : AttrTypeRow w b off l) (hf : Fr lo w w1) (hb : lo ≤ b) : AttrTypeRow w1 b off l :=
  ⟨Nat.lt_of_lt_of_le h.z hf.size, fun i hi => hf.cell _ _ _ hb (h.c0 i hi), fun i hi => hf.cell _ _ _ hb (h.c1 i hi), fun i hi => hf.cell _ _ _ hb (h.c2 i hi)⟩
/-- A slice of these: the rows, and what each of them holds. -/
def SqAttrTypeE (w : World) (lo : Nat) (h : Hd) (l : List AttrTypeE) : Prop := h.len = l.length ∧ (l = [] ∨ ∃ b off, h.a = some ⟨b, off, none⟩ ∧ lo ≤ b ∧ AttrTypeRow w b off l) ∧ ∀ e ∈ l, AttrTypeM w lo e
theorem SqAttrTypeE.fr {w w1 : World} {lo : Nat} {h : Hd} {l : List AttrTypeE} (s : SqAttrTypeE w lo h l) (hf : Fr lo w w1) : SqAttrTypeE w1 lo h l :=
  ⟨s.1, s.2.1.imp id fun ⟨b, off, e, hb, r⟩ => ⟨b, off, e, hb, r.fr hf hb⟩, fun e he => (s.2.2 e he).fr hf⟩
theorem SqAttrTypeE.lo {w : World} {lo lo' : Nat} {h : Hd} {l : List AttrTypeE} (s : SqAttrTypeE w lo h l) (hl : lo' ≤ lo) : SqAttrTypeE w lo' h l :=
  ⟨s.1, s.2.1.imp id fun ⟨b, off, e, hb, r⟩ => ⟨b, off, e, Nat.le_trans hl hb, r⟩, fun e he => (s.2.2 e he).lo hl⟩
theorem SqAttrTypeE.keep {w w1 : World} {lo : Nat} {h : Hd} {l : List AttrTypeE} (s : SqAttrTypeE w lo h l) (hb : Below w.heap.size w w1) : SqAttrTypeE w1 lo h l := s.fr (Fr.below hb lo)
theorem SqAttrTypeE.at {w : World} {lo : Nat} {h : Hd} {l : List AttrTypeE} (s : SqAttrTypeE w lo h l) {k : Nat} (hk : k < h.len) : ∃ b off, h.a = some ⟨b, off, none⟩ ∧ AttrTypeRow w b off l := by
  rcases s.2.1 with e | ⟨b, off, e, _, r⟩
  · rw [s.1, e] at hk; simp at hk
  · exact ⟨b, off, e, r⟩
def SqAttrType (w : World) (lo : Nat) (h : Hd) (xs : List AttrTypeT) : Prop := ∃ l : List AttrTypeE, l.map (·.t) = xs ∧ SqAttrTypeE w lo h l
theorem SqAttrType.fr {w w1 : World} {lo : Nat} {h : Hd} {xs : List AttrTypeT} (s : SqAttrType w lo h xs) (hf : Fr lo w w1) : SqAttrType w1 lo h xs := ⟨s.choose, s.choose_spec.1, s.choose_spec.2.fr hf⟩
theorem SqAttrType.lo {w : World} {lo lo' : Nat} {h : Hd} {xs : List AttrTypeT} (s : SqAttrType w lo h xs) (hl : lo' ≤ lo) : SqAttrType w lo' h xs := ⟨s.choose, s.choose_spec.1, s.choose_spec.2.lo hl⟩
theorem SqAttrType.keep {w w1 : World} {lo : Nat} {h : Hd} {xs : List AttrTypeT} (s : SqAttrType w lo h xs) (hb : Below w.heap.size w w1) : SqAttrType w1 lo h xs := s.fr (Fr.below hb lo)
theorem SqAttrType.len {w : World} {lo : Nat} {h : Hd} {xs : List AttrTypeT} (s : SqAttrType w lo h xs) : h.len = xs.length := by
  obtain ⟨l, rfl, s⟩ := s
  rw [s.1]; simp

set_option maxRecDepth 20000 in
set_option maxHeartbeats 2000000 in
theorem szAttrType_n (e : AttrTypeE) (left : Int) (w : World) (h0 : 0 ≤ left) (h1 : left ≤ 1048576) (ho : AttrTypeN e.t) (_hm : AttrTypeM w 0 e) :
    Calls Try.prog 23 #[.agg #[.string e.t.f0, .int .i64 e.t.f1, .bool e.t.f2], .int .i64 left] w fun r w' => (∃ m : Int, -1 ≤ m ∧ m ≤ left ∧ (0 ≤ m → AttrTypeSm e.t) ∧ r = .returned (.int .i64 m)) ∧ Below w.heap.size w w' := by
  have s0 := ho.o0
  unfold maxLen at s0
  have R := hide (RowIs.new w #[.string e.t.f0, .int .i64 e.t.f1, .bool e.t.f2] 62)
  have B := hide (bAl (Below.refl w.heap.size w) (.cells #[.string e.t.f0, .int .i64 e.t.f1, .bool e.t.f2] 62))
  clear ho
  go_enter Try.func23, Try.ntmps23
  by_cases g0 : left < (e.t.f0.size : Int)
  · have d0 : decide (left - (e.t.f0.size : Int) < 0) = true := by simp; omega
    go_wp2_with fail
    go_ret
    exact ⟨⟨-1, by omega, by omega, by omega, rfl⟩, unhide B⟩
  have d0 : decide (left - (e.t.f0.size : Int) < 0) = false := by simp; omega
  go_wp2_with fail
  go_ret
  exact ⟨⟨_, by omega, by omega, fun _ => ⟨trivial⟩, rfl⟩, unhide B⟩

set_option maxRecDepth 40000 in
set_option maxHeartbeats 8000000 in
theorem toAttrType_n (e : AttrTypeE) (w : World) (_hs : AttrTypeSm e.t) (_hm : AttrTypeM w 0 e) :
    Calls Try.prog 28 #[.agg #[.string e.t.f0, .int .i64 e.t.f1, .bool e.t.f2]] w fun r w' => (∃ e' : AttrTypeE, e'.t = e.t ∧ r = .returned (.agg #[.string e'.t.f0, .int .i64 e'.t.f1, .bool e'.t.f2]) ∧ AttrTypeM w' w.heap.size e') ∧ Below w.heap.size w w' := by
  go_enter Try.func28, Try.ntmps28
  go_wp2
  exact bodyPost_ret (v := .agg #[.string e.t.f0, .int .i64 e.t.f1, .bool e.t.f2]) (by simp [results, Try.results28, go_sem]) rfl ⟨⟨e, rfl, rfl, ⟨trivial⟩⟩, bAl (bAl (bAl (Below.refl _ _) _) _) _⟩

set_option maxRecDepth 20000 in
set_option maxHeartbeats 2000000 in
theorem eqAttrType_n (e1 e2 : AttrTypeE) (w : World) (ht : e2.t = e1.t) (_hn : AttrTypeN e1.t) (_m1 : AttrTypeM w 0 e1) (_m2 : AttrTypeM w 0 e2) :
    Calls Try.prog 37 #[.agg #[.string e1.t.f0, .int .i64 e1.t.f1, .bool e1.t.f2], .agg #[.string e2.t.f0, .int .i64 e2.t.f1, .bool e2.t.f2]] w fun r w' => r = .returned (.bool true) ∧ Below w.heap.size w w' := by
  obtain ⟨t⟩ := e1
  obtain ⟨t'⟩ := e2
  simp only at ht
  subst ht
  have X := hide ((RowIs.new w #[.string t'.f0, .int .i64 t'.f1, .bool t'.f2] 38).keep (bAl (Below.refl _ _) (.cells #[.string t'.f0, .int .i64 t'.f1, .bool t'.f2] 38)))
  have Y : Hid (RowIs ((w.alloc (.cells #[.string t'.f0, .int .i64 t'.f1, .bool t'.f2] 38)).alloc (.cells #[.string t'.f0, .int .i64 t'.f1, .bool t'.f2] 38)) (w.heap.size + 1) #[.string t'.f0, .int .i64 t'.f1, .bool t'.f2] 38) := hide (by have := RowIs.new (w.alloc (.cells #[.string t'.f0, .int .i64 t'.f1, .bool t'.f2] 38)) #[.string t'.f0, .int .i64 t'.f1, .bool t'.f2] 38; simpa using this)
  have B := hide (bAl (bAl (Below.refl w.heap.size w) (.cells #[.string t'.f0, .int .i64 t'.f1, .bool t'.f2] 38)) (.cells #[.string t'.f0, .int .i64 t'.f1, .bool t'.f2] 38))
  go_enter Try.func37, Try.ntmps37
  go_wp2_with fail
  go_ret
  exact ⟨rfl, unhide B⟩

set_option maxRecDepth 20000 in
set_option maxHeartbeats 2000000 in
theorem szAttrTypeS_n (h : Hd) (xs : List AttrTypeT) (left : Int) (w : World) (h0 : 0 ≤ left) (h1 : left ≤ 1048576) (ho : ∀ q ∈ xs, AttrTypeN q) (hl : xs.length ≤ maxLen) (hs : SqAttrType w 0 h xs) :
    Calls Try.prog 9 #[.slice h.a h.len h.cap, .int .i64 left] w fun e w' => (∃ m : Int, -1 ≤ m ∧ m ≤ left ∧ (0 ≤ m → xs.length ≤ 1048576 ∧ ∀ q ∈ xs, AttrTypeSm q) ∧ e = .returned (.int .i64 m)) ∧ Below w.heap.size w w' := by
  obtain ⟨l, rfl, hs⟩ := hs
  have ho' : ∀ q ∈ l, AttrTypeN q.t := fun q hq => ho _ (List.mem_map_of_mem hq)
  have HSM : Hid ((∀ i (h : i < l.length), AttrTypeSm l[i].t) → ∀ q ∈ l.map (·.t), AttrTypeSm q) := hide (fun g q hq => by
    obtain ⟨e, he, rfl⟩ := List.mem_map.1 hq
    obtain ⟨i, hi, rfl⟩ := List.getElem_of_mem he
    exact g i hi)
  have hll : (l.map (·.t)).length = l.length := by simp
  rw [hll] at hl ⊢
  clear ho hll
  unfold maxLen at hl
  have hle := hs.1
  obtain ⟨a, len, cap⟩ := h
  simp only at hle
  by_cases hlen : left < (len : Int)
  · clear hs ho' HSM
    go_enter Try.func9, Try.ntmps9
    go_wp2
    go_ret
    exact ⟨⟨-1, by omega, by omega, by omega, rfl⟩, Below.refl _ _⟩
  have d1 : decide (left - (len : Int) < 0) = false := by simp; omega
  have HS := hide hs
  have HO := hide ho'
  clear hs ho'
  go_enter Try.func9, Try.ntmps9
  go_wp2
  go_loopw [1, 5] (fun m i w' => ∃ (k : Nat) (q : Int), k ≤ len ∧ 0 ≤ q ∧ q ≤ left ∧ i = .int .i64 k ∧ m = .int .i64 q ∧ Hid (∀ i (h : i < l.length), i < k → AttrTypeSm l[i].t) ∧ Below w.heap.size w w') (fun _ i _ => len - (Go.RowKit.intOf i).toNat)
  case atStart => exact ⟨0, _, Nat.zero_le _, by omega, by omega, rfl, rfl, hide (fun i _ h => absurd h (Nat.not_lt_zero _)), Below.refl _ _⟩
  case round =>
    obtain ⟨k, q, hk, hq1, hq2, rfl, rfl, hall, hbel⟩ := hrel
    by_cases hlt : k < len
    · obtain ⟨b, off, e0, hrow⟩ := ((unhide HS).keep hbel).at hlt
      simp only at e0
      subst e0
      have hk' : k < l.length := by omega
      have c0 := hrow.c0 k hk'
      have c1 := hrow.c1 k hk'
      have c2 := hrow.c2 k hk'
      have hz := hide (fun q (w : World) h0 h1 hb => szAttrType_n l[k] q w h0 h1 (unhide HO _ (List.getElem_mem hk')) (((unhide HS).2.2 _ (List.getElem_mem hk')).keep hb))
      have hst := hide (show AttrTypeSm l[k].t → ∀ i (h : i < l.length), i < k + 1 → AttrTypeSm l[i].t from fun hle i hi hik => by
        rcases Nat.lt_or_ge i k with h | h
        · exact unhide hall i hi h
        · obtain rfl : i = k := by omega
          exact hle)
      clear hrow
      generalize l[k] = A at hz hst c0 c1 c2
      go_wp2_with fail
      refine (unhide hz _ _ (by omega) (by omega) hbel).mono ?_
      rintro e w1 ⟨⟨m, hm1, hm2, hm3, rfl⟩, hb1⟩
      by_cases hm : m < 0
      · go_wp2_with fail
        go_ret
        exact ⟨⟨-1, by omega, by omega, by omega, rfl⟩, bTr hbel hb1⟩
      · have hst2 := hide (unhide hst (hm3 (by omega)))
        go_wp2_with fail
        exact ⟨⟨k + 1, m, by omega, by omega, by omega, by go_num, rfl, hst2, bTr hbel hb1⟩, by simp [Go.RowKit.intOf]; omega⟩
    · go_wp2_with fail
      go_ret
      exact ⟨⟨q, by omega, by omega, fun _ => ⟨by omega, unhide HSM fun i hi => unhide hall i hi (by omega)⟩, rfl⟩, hbel⟩

theorem info_AttrType : (Try.prog.info? 38).map (fun i => (i.zero, i.size, i.bytes)) = some (some (.agg #[.string ByteArray.empty, .int .i64 0, .bool false]), 3, 32) := by kernel_rfl
theorem make_AttrType (len : Nat) (w : World) (h : len ≤ 1048576) : ∃ w1 C, (Instr.makeSlice 28 (.int .i64 (len : Int)) (.int .i64 (len : Int))).run Try.prog w = .ok (.slice (some ⟨w.heap.size, 0, none⟩) len len) w1 ∧
    Below w.heap.size w w1 ∧ RowIs w1 w.heap.size C 38 ∧ C.size = len * 3 := by
  obtain ⟨i, h1, h2⟩ := Option.map_eq_some_iff.1 info_AttrType
  simp only [Prod.mk.injEq] at h2
  obtain ⟨hz, hsz, hby⟩ := h2
  have hr := run_make (P := Try.prog) w 28 38 i _ Try.underlying28 h1 hz .i64 .i64 (len : Int) (len : Int) (by omega) (by omega) (by rw [hby]; omega) (by omega)
  rw [Int.toNat_natCast, hsz] at hr
  exact ⟨_, _, hr, bAl (Below.refl _ _) _, RowIs.new _ _ _, size_madeCells _ _⟩
def FilledAttrType (C : Array Value) (l : List AttrTypeE) : Prop := ∀ i (h : i < l.length), C[i * 3]? = some (.string l[i].t.f0) ∧ C[i * 3 + 1]? = some (.int .i64 l[i].t.f1) ∧ C[i * 3 + 2]? = some (.bool l[i].t.f2)
def setAttrType (C : Array Value) (k : Nat) (x : AttrTypeE) : Array Value := (((C.setIfInBounds (k * 3) (.string x.t.f0)).setIfInBounds (k * 3 + 1) (.int .i64 x.t.f1)).setIfInBounds (k * 3 + 2) (.bool x.t.f2))
theorem size_setAttrType (C : Array Value) (k : Nat) (x : AttrTypeE) : (setAttrType C k x).size = C.size := by simp [setAttrType]
theorem FilledAttrType.snoc {C : Array Value} {l : List AttrTypeE} (h : FilledAttrType C l) (x : AttrTypeE) (hC : l.length * 3 + 3 ≤ C.size) : FilledAttrType (setAttrType C l.length x) (l ++ [x]) := by
  intro i hi
  unfold setAttrType
  by_cases e : i = l.length
  · subst e
    have s0 : l.length * 3 < C.size := by omega
    have s1 : l.length * 3 + 1 < C.size := by omega
    have s2 : l.length * 3 + 2 < C.size := by omega
    simp [s0, s1, s2]
  · have hi' : i < l.length := by simp at hi; omega
    have := h i hi'
    rw [List.getElem_append_left hi']
    simp only [Array.getElem?_setIfInBounds]
    repeat rw [if_neg (by omega)]
    exact this
theorem FilledAttrType.row {w : World} {b : Nat} {C : Array Value} {T : TypeId} {l : List AttrTypeE} (h : FilledAttrType C l) (hr : RowIs w b C T) : AttrTypeRow w b 0 l :=
  ⟨hr.lt, fun i hi => by rw [Nat.zero_add, hr.cell]; exact (h i hi).1, fun i hi => by rw [Nat.zero_add, hr.cell]; exact (h i hi).2.1, fun i hi => by rw [Nat.zero_add, hr.cell]; exact (h i hi).2.2⟩
set_option maxRecDepth 100000 in
set_option maxHeartbeats 4000000 in
theorem toAttrTypeS_n (h : Hd) (xs : List AttrTypeT) (w : World) (hl : xs.length ≤ 1048576 ∧ ∀ q ∈ xs, AttrTypeSm q) (hs : SqAttrType w 0 h xs) :
    Calls Try.prog 16 #[.slice h.a h.len h.cap] w fun e w' => (∃ h' : Hd, e = .returned (.slice h'.a h'.len h'.cap) ∧ SqAttrType w' w.heap.size h' xs) ∧ Below w.heap.size w w' := by
  obtain ⟨l, rfl, hs⟩ := hs
  have hsm : ∀ q ∈ l, AttrTypeSm q.t := fun q hq => hl.2 _ (List.mem_map_of_mem hq)
  have hll : l.length ≤ 1048576 := by have := hl.1; simpa using this
  clear hl
  have hle := hs.1
  obtain ⟨a, len, cap⟩ := h
  simp only at hle
  obtain ⟨w1, C1, hrun, hb1, hr1, hC1⟩ := make_AttrType len w (by omega)
  have HS := hide hs
  have HM := hide hsm
  have HB1 := hide hb1
  have HR1 := hide hr1
  have HL := hide hle
  clear hs hb1 hr1 hsm hle
  go_enter Try.func16, Try.ntmps16
  go_wp2
  clear hrun
  go_loopw [4] (fun i w' => ∃ (k : Nat) (C : Array Value) (l' : List AttrTypeE), k ≤ len ∧ i = .int .i64 k ∧ Hid (l'.length = k ∧ l'.map (·.t) = (l.map (·.t)).take k) ∧ Hid (Below w.heap.size w w') ∧ Hid (RowIs w' w.heap.size C 38) ∧ Hid (C.size = len * 3) ∧ Hid (FilledAttrType C l') ∧ Hid (∀ e ∈ l', AttrTypeM w' (w.heap.size + 1) e)) (fun i _ => len - (Go.RowKit.intOf i).toNat)
  case atStart => exact ⟨0, C1, [], Nat.zero_le _, rfl, hide ⟨rfl, by simp⟩, HB1, HR1, hide hC1, hide (fun i h => absurd h (Nat.not_lt_zero _)), hide (fun e he => by cases he)⟩
  case round =>
    obtain ⟨k, C, l', hk, rfl, hl', hb, hr, hC, hF, hMs⟩ := hrel
    by_cases hlt : k < len
    · obtain ⟨b, off, e0, hrow⟩ := ((unhide HS).keep (unhide hb)).at hlt
      simp only at e0
      subst e0
      have hk' : k < l.length := by have := unhide HL; omega
      have c0 := hrow.c0 k hk'
      have c1 := hrow.c1 k hk'
      have c2 := hrow.c2 k hk'
      have ht := hide (fun (w : World) hb => toAttrType_n l[k] w (unhide HM _ (List.getElem_mem hk')) (((unhide HS).2.2 _ (List.getElem_mem hk')).keep hb))
      have htk : Hid (∀ A' : AttrTypeE, A'.t = l[k].t → (l' ++ [A']).length = k + 1 ∧ (l' ++ [A']).map (·.t) = (l.map (·.t)).take (k + 1)) := hide (fun A' e => by
        refine ⟨by simp [(unhide hl').1], ?_⟩
        rw [List.map_append, (unhide hl').2, List.take_add_one]
        simp [hk', e])
      clear hrow hC1
      generalize l[k] = A at ht htk c0 c1 c2
      go_wp2_with fail
      refine (unhide ht _ (unhide hb)).mono ?_
      rintro e w2 ⟨⟨A', eA, rfl, hMA⟩, hb2⟩
      have zb : w.heap.size < wr.heap.size := (unhide hr).lt
      have hMA' := hide (hMA.lo (lo' := w.heap.size + 1) zb)
      replace hr := hide ((unhide hr).keep hb2)
      replace hb := hide (bTr (unhide hb) hb2)
      replace hMs := hide (fun e he => (unhide hMs e he).keep hb2)
      have hF' := hide ((unhide hF).snoc A' (by rw [unhide hC, (unhide hl').1]; omega))
      have hl2 := hide (unhide htk A' eA)
      have el : l'.length = k := (unhide hl').1
      rw [el] at hF'
      have s9 : k * 3 + 2 < C.size := by rw [unhide hC]; omega
      obtain ⟨D0, d0⟩ : ∃ D, C[k * 3]? = some D := ⟨_, Array.getElem?_eq_getElem (by omega)⟩
      have g0 := (unhide hr).at d0
      have y0 := (unhide hr).froz (k * 3)
      clear d0
      obtain ⟨D1, d1⟩ : ∃ D, C[k * 3 + 1]? = some D := ⟨_, Array.getElem?_eq_getElem (by omega)⟩
      have g1 := (unhide hr).at d1
      have y1 := (unhide hr).froz (k * 3 + 1)
      clear d1
      obtain ⟨D2, d2⟩ : ∃ D, C[k * 3 + 2]? = some D := ⟨_, Array.getElem?_eq_getElem (by omega)⟩
      have g2 := (unhide hr).at d2
      have y2 := (unhide hr).froz (k * 3 + 2)
      clear d2
      clear c0 c1 c2 hb2 hMA eA htk hF hl' ht
      go_wp2_with fail
      refine ⟨⟨k + 1, setAttrType C k A', l' ++ [A'], by omega, by go_num, hl2, hide ?_, hide ?_, hide (by rw [size_setAttrType]; exact unhide hC), hF', hide ?_⟩, by simp [Go.RowKit.intOf]; omega⟩
      · repeat refine bSt ?_ (Nat.le_refl _) _ _
        exact unhide hb
      · exact (((unhide hr).set _ _).set _ _).set _ _
      · have fr : Fr (w.heap.size + 1) w2 _ := ((((Fr.below (Below.refl _ w2) _).sets (o' := k * 3) (.string A'.t.f0) (Nat.lt_succ_self _)).sets (o' := k * 3 + 1) (.int .i64 A'.t.f1) (Nat.lt_succ_self _)).sets (o' := k * 3 + 2) (.bool A'.t.f2) (Nat.lt_succ_self _))
        intro e he
        rcases List.mem_append.1 he with h | h
        · exact (unhide hMs e h).fr fr
        · obtain rfl : e = A' := by simpa using h
          exact (unhide hMA').fr fr
    · go_wp2_with fail
      go_ret
      have hle := unhide HL
      have e : k = l.length := by omega
      have el : l'.length = k := (unhide hl').1
      exact ⟨⟨⟨some ⟨w.heap.size, 0, none⟩, len, len⟩, rfl, l', by rw [(unhide hl').2, e, List.take_of_length_le (by simp)], by simp only; omega, .inr ⟨_, _, rfl, Nat.le_refl _, (unhide hF).row (unhide hr)⟩, fun e he => (unhide hMs e he).lo (Nat.le_succ _)⟩, unhide hb⟩

set_option maxRecDepth 20000 in
set_option maxHeartbeats 4000000 in
theorem eqAttrTypeS_n (h g : Hd) (xs : List AttrTypeT) (w : World) (hl : xs.length ≤ maxLen) (hn : ∀ q ∈ xs, AttrTypeN q) (h1 : SqAttrType w 0 h xs) (h2 : SqAttrType w 0 g xs) :
    Calls Try.prog 21 #[.slice h.a h.len h.cap, .slice g.a g.len g.cap] w fun e w' => e = .returned (.bool true) ∧ Below w.heap.size w w' := by
  obtain ⟨l, rfl, h1⟩ := h1
  obtain ⟨m, em, h2⟩ := h2
  have hn' : ∀ q ∈ l, AttrTypeN q.t := fun q hq => hn _ (List.mem_map_of_mem hq)
  have elm : m.length = l.length := by have := congrArg List.length em; simpa using this
  have het : ∀ i (hi : i < l.length), (m[i]'(by omega)).t = l[i].t := fun i hi => by
    have := List.getElem_of_eq em (i := i) (by simp; omega)
    simpa using this
  have hle := h1.1
  have hge := h2.1
  have hlm : l.length ≤ maxLen := by simpa using hl
  unfold maxLen at hlm
  obtain ⟨a1, len1, c1⟩ := h
  obtain ⟨a2, len2, c2⟩ := g
  simp only at hle hge
  obtain rfl : len1 = len2 := by omega
  have H1 := hide h1
  have H2 := hide h2
  have HN := hide hn'
  have HT := hide het
  clear h1 h2 hn hn' het em hl
  go_enter Try.func21, Try.ntmps21
  go_wp2
  go_loopw [5] (fun i w' => ∃ k : Nat, k ≤ len1 ∧ i = .int .i64 k ∧ Hid (Below w.heap.size w w')) (fun i _ => len1 - (Go.RowKit.intOf i).toNat)
  case atStart => exact ⟨0, Nat.zero_le _, rfl, hide (Below.refl _ _)⟩
  case round =>
    obtain ⟨k, hk, rfl, hbel⟩ := hrel
    by_cases hlt : k < len1
    · have hk' : k < l.length := by omega
      have hk2 : k < m.length := by omega
      obtain ⟨b, off, e0, r1⟩ := ((unhide H1).keep (unhide hbel)).at hlt
      obtain ⟨b', off', e1, r2⟩ := ((unhide H2).keep (unhide hbel)).at hlt
      simp only at e0 e1
      subst e0 e1
      have p0 := r1.c0 k hk'
      have p1 := r1.c1 k hk'
      have p2 := r1.c2 k hk'
      have q0 := r2.c0 k hk2
      have q1 := r2.c1 k hk2
      have q2 := r2.c2 k hk2
      have z1 := r1.z
      have z2 := r2.z
      have Q := hide (fun (q : Kept wr) => eqAttrType_n l[k] m[k] q.w (unhide HT k hk') (unhide HN _ (List.getElem_mem hk')) (((unhide H1).2.2 _ (List.getElem_mem hk')).keep (bTr (unhide hbel) q.h)) (((unhide H2).2.2 _ (List.getElem_mem hk2)).keep (bTr (unhide hbel) q.h)))
      clear r1 r2
      generalize l[k] = A at Q p0 p1 p2
      generalize m[k] = A' at Q q0 q1 q2
      have ne : Nonempty (Kept wr) := ⟨⟨wr, Below.refl _ _⟩⟩
      have x0 := kept_cell z1 p0
      have x1 := kept_cell z1 p1
      have x2 := kept_cell z1 p2
      have y0 := kept_cell z2 q0
      have y1 := kept_cell z2 q1
      have y2 := kept_cell z2 q2
      have i0 : (0 : Int) ≤ (k : Int) := by omega
      have i1 : (k : Int) < (len1 : Int) := by omega
      go_wp2_with fail
      refine wp_region_kept (by kernel_rfl) (by kernel_rfl) ?_
      repeat (first
        | go_big_quiet_step ((go_at_call 37; exact kept_call (unhide Q _)))
        | quiet_step ((go_at_call 37; exact kept_call (unhide Q _))))
      refine wpQuiet_nil ?_
      rintro _ ⟨q, rfl⟩
      clear ne x0 x1 x2 y0 y1 y2
      obtain ⟨w3, hb3⟩ := q
      have HB3 := hide (bTr (unhide hbel) hb3)
      go_wp2_with fail
      exact ⟨⟨k + 1, by omega, by go_num, HB3⟩, by simp [Go.RowKit.intOf]; omega⟩
    · go_wp2_with fail
      go_ret
      exact ⟨rfl, unhide hbel⟩

theorem listcAttrType {α : Type} {l : List α} (h : l.length = 3) : ∃ a0 a1 a2, l = [a0, a1, a2] := by
  match l, h with
  | [a0, a1, a2], _ => exact ⟨a0, a1, a2, rfl⟩
theorem listfAttrType {α : Type} {l : List α} (h : l.length = 3) : ∃ a0 a1 a2, l = [a0, a1, a2] := by
  match l, h with
  | [a0, a1, a2], _ => exact ⟨a0, a1, a2, rfl⟩
section
variable {H : Type} {enc : TypeId × Value → H} {w : World} {base : Nat} {sp : Nat → Bool} {held : Bool}
set_option maxRecDepth 100000 in
theorem read_AttrType {n : Nat} {cs : List Value} {x : DataW H × List MemPlace} (h : DataW.trod enc Try.prog w base sp held n 62 cs = some x) : ∃ e : AttrTypeE, cs = [.string e.t.f0, .int .i64 e.t.f1, .bool e.t.f2] ∧ AttrTypeN e.t ∧ AttrTypeM w 0 e := by
  obtain ⟨xs, m, rfl, _, hlen, hx, hf⟩ := DataW.trod_struct Try.underlying62 h
  have hc : Try.prog.cellsOf 62 = 3 := by kernel_rfl
  have ky0 : Try.prog.cellsOf 4 = 1 := by kernel_rfl
  have ky1 : Try.prog.cellsOf 3 = 1 := by kernel_rfl
  have ky2 : Try.prog.cellsOf 9 = 1 := by kernel_rfl
  obtain ⟨c0, c1, c2, rfl⟩ := listcAttrType (hlen.trans hc)
  obtain ⟨x0, x1, x2, rfl⟩ := listfAttrType hx
  have h0 : DataW.trod enc Try.prog w base sp held m 9 [c0] = some x0 := by have := hf 0 _ rfl; simpa [ky0, ky1, ky2] using this
  obtain ⟨y0, e0, _, ok0⟩ := DataW.trod_string Try.underlying9 h0
  simp at e0
  subst e0
  have h1 : DataW.trod enc Try.prog w base sp held m 3 [c1] = some x1 := by have := hf 1 _ rfl; simpa [ky0, ky1, ky2] using this
  obtain ⟨y1, e1, _, _⟩ := DataW.trod_int Try.underlying3 h1
  simp at e1
  subst e1
  have h2 : DataW.trod enc Try.prog w base sp held m 4 [c2] = some x2 := by have := hf 2 _ rfl; simpa [ky0, ky1, ky2] using this
  obtain ⟨y2, e2, _⟩ := DataW.trod_bool Try.underlying4 h2
  simp at e2
  subst e2
  exact ⟨⟨⟨y0, y1, y2⟩⟩, rfl, ⟨ok0, trivial⟩, ⟨trivial⟩⟩
set_option maxRecDepth 100000 in
theorem came_AttrType {r : Reach} {b0 : Nat} {v0 : Value} {d : DataW H} {q : List MemPlace} (hv : Value.okWide Try.prog w r b0 62 v0) (h : DataW.Trod enc Try.prog w base sp held 62 v0 d q) : ∃ e : AttrTypeE, v0 = .agg #[.string e.t.f0, .int .i64 e.t.f1, .bool e.t.f2] ∧ AttrTypeN e.t ∧ AttrTypeM w 0 e := by
  obtain ⟨cs, rfl, _⟩ := okWide_struct Try.underlying62 hv
  obtain ⟨fuel, hf0⟩ := h
  obtain ⟨e, h1, h2, h3⟩ := read_AttrType hf0
  refine ⟨e, ?_, h2, h3⟩
  obtain ⟨l⟩ := cs
  simp only [Value.cells] at h1
  rw [h1]
set_option maxRecDepth 100000 in
theorem readsAttrType {n len cap : Nat} {a : Option Addr} {x : DataW H × List MemPlace} (h : DataW.trod enc Try.prog w base sp held n 22 [.slice a len cap] = some x) :
    ∃ l : List AttrTypeT, SqAttrType w 0 ⟨a, len, cap⟩ l ∧ (∀ q ∈ l, AttrTypeN q) ∧ l.length ≤ maxLen := by
  have hc : Try.prog.cellsOf 62 = 3 := by kernel_rfl
  rcases Go.Deep.open_slice Try.underlying22 h with ⟨hcs, _⟩ | ⟨a', len', cap', m, n', D, Pl, hcs, _, hl, hm, hmm, _, hel⟩
  · simp at hcs
    obtain ⟨rfl, rfl, rfl⟩ := hcs
    exact ⟨[], ⟨[], rfl, rfl, .inl rfl, by simp⟩, by simp, Nat.zero_le _⟩
  · simp at hcs
    obtain ⟨rfl, rfl, rfl⟩ := hcs
    have hlm : len ≤ m := by rw [hmm]; split <;> omega
    by_cases h0 : len = 0
    · subst h0; exact ⟨[], ⟨[], rfl, rfl, .inl rfl, by simp⟩, by simp, Nat.zero_le _⟩
    have hspot : a'.spot = none := by
      obtain ⟨cs', h1, h2⟩ := hel 0 (by omega)
      rw [hc] at h1
      obtain ⟨A, rfl, _⟩ := read_AttrType h2
      have e0 := (World.cells?_some h1).2.2 0 (by omega)
      simp [Addr.add] at e0
      exact World.cell?_spot e0
    obtain ⟨b, off, spot⟩ := a'
    simp only at hspot
    subst hspot
    have hA : ∀ i, i < len → ∃ A : AttrTypeE, AttrTypeN A.t ∧ AttrTypeM w 0 A ∧ (w.cell? ⟨b, off + i * 3, none⟩ = some (.string A.t.f0) ∧ w.cell? ⟨b, off + i * 3 + 1, none⟩ = some (.int .i64 A.t.f1) ∧ w.cell? ⟨b, off + i * 3 + 2, none⟩ = some (.bool A.t.f2)) ∧ b < w.heap.size := by
      intro i hi
      obtain ⟨cs', h1, h2⟩ := hel i (by omega)
      rw [hc, addr_add] at h1
      obtain ⟨A, rfl, hok, hM⟩ := read_AttrType h2
      have h3 := (World.cells?_some h1).2.2
      have e0 := h3 0 (by omega)
      have e1 := h3 1 (by omega)
      have e2 := h3 2 (by omega)
      rw [addr_add] at e0 e1 e2
      exact ⟨A, hok, hM, ⟨e0, e1, e2⟩, World.block_lt_of_cell? w ⟨b, off + i * 3 + 0, none⟩ e0⟩
    obtain ⟨f, hf⟩ := @Go.Deep.choose_lt AttrTypeE ⟨⟨⟨⟨#[]⟩, 0, false⟩⟩⟩ len (fun i A => AttrTypeN A.t ∧ AttrTypeM w 0 A ∧ (w.cell? ⟨b, off + i * 3, none⟩ = some (.string A.t.f0) ∧ w.cell? ⟨b, off + i * 3 + 1, none⟩ = some (.int .i64 A.t.f1) ∧ w.cell? ⟨b, off + i * 3 + 2, none⟩ = some (.bool A.t.f2)) ∧ b < w.heap.size) hA
    refine ⟨((List.range len).map f).map (·.t), ⟨(List.range len).map f, rfl, by simp, .inr ⟨b, off, rfl, Nat.zero_le _, (hf 0 (by omega)).2.2.2, fun i hi => ?_, fun i hi => ?_, fun i hi => ?_⟩, ?_⟩, ?_, by simp; omega⟩
    · simp at hi
      have := (hf i hi).2.2.1.1
      simpa using this
    · simp at hi
      have := (hf i hi).2.2.1.2.1
      simpa using this
    · simp at hi
      have := (hf i hi).2.2.1.2.2
      simpa using this
    · intro q hq
      simp at hq
      obtain ⟨i, hi, rfl⟩ := hq
      exact (hf i hi).2.1
    · intro q hq
      simp at hq
      obtain ⟨i, hi, rfl⟩ := hq
      exact (hf i hi).1
set_option maxRecDepth 100000 in
/-- A slice that came in. -/
theorem cames_AttrType {r : Reach} {b0 : Nat} {v0 : Value} {d : DataW H} {q : List MemPlace} (hv : Value.okWide Try.prog w r b0 22 v0) (h : DataW.Trod enc Try.prog w base sp held 22 v0 d q) :
    ∃ (h : Hd) (xs : List AttrTypeT), v0 = .slice h.a h.len h.cap ∧ SqAttrType w 0 h xs ∧ (∀ q ∈ xs, AttrTypeN q) ∧ xs.length ≤ maxLen := by
  obtain ⟨a, len, cap, rfl⟩ := okWide_slice Try.underlying22 hv
  obtain ⟨fuel, hf0⟩ := h
  obtain ⟨l, h1, h2, h3⟩ := readsAttrType hf0
  exact ⟨⟨a, len, cap⟩, l, rfl, h1, h2, h3⟩
end
end Go.Proofs.Ytobmdeoppbjjpaa.V
