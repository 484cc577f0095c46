/- FitsKind, both sides. -/
import Derived.Test.YtkfbecelfkbkkaaDoorZFk
import Derived.BigQuiet
namespace Go.Proofs.YtkfbecelfkbkkaaDoor.V
set_option linter.unusedSimpArgs false
set_option linter.unusedVariables false
open Go.RowKit

set_option maxHeartbeats 1000000 in
theorem fits1_any (A : AtomT) (item : ByteArray) (bc : Nat) (w : World) (hg : A.good = true) (hc : w.cell? ⟨bc, 0, none⟩ = some (.string item)) (hT : Words w) :
    Calls Tryd.prog 25 #[.agg #[.int .i64 A.x, .int .i64 A.n, .string A.t, .string A.y], .pointer (some ⟨bc, 0, none⟩)] w fun e w' => RetB e (akind A = item) ∧ Below w.heap.size w w' := by
  obtain ⟨W, hW⟩ : ∃ W, W = w.alloc (.cells #[.int .i64 A.x, .int .i64 A.n, .string A.t, .string A.y] 30) := ⟨_, rfl⟩
  have bW : Below w.heap.size w W := by rw [hW]; exact bAl (Below.refl _ _) _
  have qW : RowIs W w.heap.size #[.int .i64 A.x, .int .i64 A.n, .string A.t, .string A.y] 30 := by rw [hW]; exact RowIs.new w _ _
  have zb : bc < w.heap.size := World.block_lt_of_cell? w ⟨bc, 0, none⟩ hc
  have HW := hide hW
  have TW := hide (hT.keep bW)
  have qk := hide (fun (q : Kept W) => kindOfAtom_any A q.w hg ((unhide TW).keep q.h))
  have x0 := kept_cell (W := W) (p := ⟨w.heap.size, 0, none⟩) qW.lt (qW.at (o := 0) (v := .int .i64 A.x) rfl)
  have x1 := kept_cell (W := W) (p := ⟨w.heap.size, 1, none⟩) qW.lt (qW.at (o := 1) (v := .int .i64 A.n) rfl)
  have x2 := kept_cell (W := W) (p := ⟨w.heap.size, 2, none⟩) qW.lt (qW.at (o := 2) (v := .string A.t) rfl)
  have x3 := kept_cell (W := W) (p := ⟨w.heap.size, 3, none⟩) qW.lt (qW.at (o := 3) (v := .string A.y) rfl)
  have y0 := kept_cell (W := W) (p := ⟨bc, 0, none⟩) (Nat.lt_of_lt_of_le zb bW.size) (cellB bW zb hc)
  have ne : Nonempty (Kept W) := ⟨⟨W, Below.refl _ _⟩⟩
  have BW := hide bW
  generalize akind A = K at qk ⊢
  clear hW hT hg hc bW qW zb TW
  by_cases he : K = item
  · have e : (K.toList == item.toList) = true := by rw [he]; exact str_eqY _
    have yes := hide he
    clear he
    go_enter Tryd.func25, Tryd.ntmps25
    go_wp2_with fail
    rw [← unhide HW]
    refine wp_region_kept (by kernel_rfl) (by kernel_rfl) ?_
    repeat (first
      | go_big_quiet_step ((go_at_call 26; exact kept_call (unhide qk _)))
      | quiet_step ((go_at_call 26; exact kept_call (unhide qk _))))
    refine wpQuiet_nil ?_
    rintro _ ⟨q, rfl⟩
    go_wp2_with fail
    go_ret
    exact ⟨retB (b := true) ⟨fun _ => unhide yes, fun _ => rfl⟩, bTr (unhide BW) q.h⟩
  · have e := str_neY he
    have no := hide he
    clear he
    go_enter Tryd.func25, Tryd.ntmps25
    go_wp2_with fail
    rw [← unhide HW]
    refine wp_region_kept (by kernel_rfl) (by kernel_rfl) ?_
    repeat (first
      | go_big_quiet_step ((go_at_call 26; exact kept_call (unhide qk _)))
      | quiet_step ((go_at_call 26; exact kept_call (unhide qk _))))
    refine wpQuiet_nil ?_
    rintro _ ⟨q, rfl⟩
    go_wp2_with fail
    go_ret
    exact ⟨retB (b := false) ⟨fun h => (by cases h), fun h => absurd h (unhide no)⟩, bTr (unhide BW) q.h⟩
set_option maxHeartbeats 1000000 in
theorem notGood_fit (bc : Nat) (P : AtomT → Prop) (b : Nat) (x : AtomT) (w : World) (hc : w.cell? ⟨b, 0, none⟩ = some (.func (.func 25) #[] #[.pointer (some ⟨bc, 0, none⟩)]))
    (q : ∀ w' : World, Below w.heap.size w w' → Calls Tryd.prog 25 #[.agg #[.int .i64 x.x, .int .i64 x.n, .string x.t, .string x.y], .pointer (some ⟨bc, 0, none⟩)] w' fun e w'' => RetB e (P x) ∧ Below w'.heap.size w' w'') :
    Calls Tryd.prog 59 #[.agg #[.int .i64 x.x, .int .i64 x.n, .string x.t, .string x.y], .pointer (some ⟨b, 0, none⟩)] w fun e w' => RetB e (¬ P x) ∧ Below w.heap.size w w' := by
  have HB := hide (bAl (Below.refl w.heap.size w) (.cells #[.int .i64 x.x, .int .i64 x.n, .string x.t, .string x.y] 30))
  have zb : b < w.heap.size := World.block_lt_of_cell? w ⟨b, 0, none⟩ hc
  have Q := hide (q _ (unhide HB))
  clear q
  go_enter Tryd.func59, Tryd.ntmps59
  go_wp2_with fail
  refine (unhide Q).mono ?_
  rintro e w1 ⟨⟨v, rfl, hv⟩, hb⟩
  have B1 := hide (bTr (unhide HB) hb)
  have HV := hide hv
  clear hb HB Q hc hv
  go_wp2_with fail
  go_ret
  refine ⟨retB (b := !v) ?_, unhide B1⟩
  rw [← unhide HV]; cases v <;> simp
set_option maxHeartbeats 1000000 in
theorem indexBad_fit (bc : Nat) (P : AtomT → Prop) (b : Nat) (h : Hd) (l : List AtomT) (w : World) (hl : l.length ≤ maxLen) (hs : SqA w 0 h l) (hc : w.cell? ⟨b, 0, none⟩ = some (.func (.func 25) #[] #[.pointer (some ⟨bc, 0, none⟩)]))
    (q : ∀ x ∈ l, ∀ w' : World, Below w.heap.size w w' → Calls Tryd.prog 25 #[.agg #[.int .i64 x.x, .int .i64 x.n, .string x.t, .string x.y], .pointer (some ⟨bc, 0, none⟩)] w' fun e w'' => RetB e (P x) ∧ Below w'.heap.size w' w'') :
    Calls Tryd.prog 67 #[.slice h.a h.len h.cap, .func (.func 59) #[] #[.pointer (some ⟨b, 0, none⟩)]] w fun e w' => (∃ v : Int, e = .returned (.int .i64 v) ∧ (0 ≤ v ↔ ¬ ∀ x ∈ l, P x)) ∧ Below w.heap.size w w' := by
  have HS := hide hs
  have zb : b < w.heap.size := World.block_lt_of_cell? w ⟨b, 0, none⟩ hc
  have HC := hide (fun (w' : World) (h : Below w.heap.size w w') => cellB (w' := w') h zb hc)
  have HQ := hide q
  have HL := hide hs.1
  have hlm : h.len ≤ maxLen := by rw [hs.1]; exact hl
  unfold maxLen at hlm
  obtain ⟨a, len, cap⟩ := h
  simp only at hlm HL
  clear hs hc q hl
  go_enter Tryd.func67, Tryd.ntmps67
  go_wp2_with fail
  go_loopw [8] (fun i w' => ∃ k : Nat, k ≤ len ∧ i = .int .i64 k ∧ Hid (Below w.heap.size w w') ∧ Hid (∀ i (h : i < l.length), i < k → P l[i])) (fun i _ => len - (Go.RowKit.intOf i).toNat)
  case atStart => exact ⟨0, Nat.zero_le _, rfl, hide (Below.refl _ _), hide (fun i _ h => absurd h (Nat.not_lt_zero _))⟩
  case round =>
    obtain ⟨k, hk, rfl, hb, hA⟩ := hrel
    by_cases hlt : k < len
    · have hk' : k < l.length := by have := unhide HL; omega
      obtain ⟨b1, off, e0, hrow⟩ := ((unhide HS).keep (unhide hb)).sl.at hlt
      simp only at e0
      subst e0
      have c0 := (hrow.c k hk').c0
      have c1 := (hrow.c k hk').c1
      have c2 := (hrow.c k hk').c2
      have c3 := (hrow.c k hk').c3
      have zk := hrow.z
      have q := hide (notGood_fit bc P b l[k] wr (unhide HC _ (unhide hb)) (fun w' h => unhide HQ _ (List.getElem_mem hk') w' (bTr (unhide hb) h)))
      have eS : Hid (P l[k] → ∀ i (h : i < l.length), i < k + 1 → P l[i]) := hide (fun g i hi h1 => by
        rcases Nat.lt_or_ge i k with h2 | h2
        · exact unhide hA i hi h2
        · obtain rfl : i = k := by omega
          exact g)
      have eN : Hid (¬ P l[k] → ¬ ∀ x ∈ l, P x) := hide (fun g h => g (h _ (List.getElem_mem hk')))
      clear hrow
      generalize l[k] = A at *
      go_wp2_with fail
      refine (unhide q).mono ?_
      rintro e w1 ⟨⟨v, rfl, hv⟩, hb1⟩
      have B1 := hide (bTr (unhide hb) hb1)
      have HV := hide hv
      clear hb1 q hv c0 c1 c2 c3
      cases v
      · have S := hide (unhide eS (Classical.byContradiction fun h => by have := (unhide HV).2 h; cases this))
        clear eS eN HV
        go_wp2_with fail
        exact ⟨⟨k + 1, by omega, by go_num, B1, S⟩, by simp [Go.RowKit.intOf]; omega⟩
      · have N := hide (unhide eN ((unhide HV).1 rfl))
        clear eS eN HV
        go_wp2_with fail
        go_ret
        exact ⟨⟨_, rfl, fun _ => unhide N, fun _ => by omega⟩, unhide B1⟩
    · have S : Hid (∀ x ∈ l, P x) := hide (fun x hx => by
        obtain ⟨i, hi, rfl⟩ := List.getElem_of_mem hx
        exact unhide hA i hi (by have := unhide HL; omega))
      go_wp2_with fail
      go_ret
      exact ⟨⟨_, rfl, fun h => absurd h (by decide), fun h => absurd (unhide S) h⟩, unhide hb⟩
set_option maxHeartbeats 1000000 in
theorem goodList_fit (bc : Nat) (P : AtomT → Prop) (most : Int) (h : Hd) (l : List AtomT) (w : World) (hl : l.length ≤ maxLen) (hs : SqA w 0 h l)
    (q : ∀ x ∈ l, ∀ w' : World, Below w.heap.size w w' → Calls Tryd.prog 25 #[.agg #[.int .i64 x.x, .int .i64 x.n, .string x.t, .string x.y], .pointer (some ⟨bc, 0, none⟩)] w' fun e w'' => RetB e (P x) ∧ Below w'.heap.size w' w'') :
    Calls Tryd.prog 43 #[.slice h.a h.len h.cap, .int .i64 most, .func (.func 25) #[] #[.pointer (some ⟨bc, 0, none⟩)]] w fun e w' => RetB e ((l.length : Int) ≤ most ∧ ∀ x ∈ l, P x) ∧ Below w.heap.size w w' := by
  have HS := hide hs
  have HQ := hide q
  have HL := hide hs.1
  have HM := hide hl
  clear hs q hl
  by_cases h200 : (h.len : Int) ≤ most
  · obtain ⟨W, hW⟩ : ∃ W, W = w.alloc (.cells #[.func (.func 25) #[] #[.pointer (some ⟨bc, 0, none⟩)]] 52) := ⟨_, rfl⟩
    have R := show RowIs W w.heap.size #[.func (.func 25) #[] #[.pointer (some ⟨bc, 0, none⟩)]] 52 by rw [hW]; exact RowIs.new _ _ _
    have B := hide (show Below w.heap.size w W by rw [hW]; exact bAl (Below.refl _ _) _)
    have HW := hide hW.symm
    clear hW
    have q := hide (fun hc => indexBad_fit bc P w.heap.size h l W (unhide HM) ((unhide HS).keep (unhide B)) hc (fun x hx w' h => unhide HQ x hx w' (bTr (unhide B) h)))
    have q2 : Hid (Calls Tryd.prog 58 #[.slice h.a h.len h.cap, .func (.func 59) #[] #[.pointer (some ⟨w.heap.size, 0, none⟩)]] W fun e w' => (∃ v : Bool, e = .returned (.bool v) ∧ (v = true ↔ ¬ ∀ x ∈ l, P x)) ∧ Below W.heap.size W w') := hide (by
      have q := hide (unhide q (R.at (o := 0) rfl))
      go_enter Tryd.func58, Tryd.ntmps58
      go_wp2_with fail
      refine (unhide q).mono ?_
      rintro e w1 ⟨⟨v, rfl, hv⟩, hb⟩
      have HV := hide hv
      clear hv
      go_wp2_with fail
      go_ret
      exact ⟨⟨decide (0 ≤ v), rfl, by rw [decide_eq_true_iff]; exact unhide HV⟩, hb⟩)
    have hst := @run_store Tryd.prog
    clear q R
    go_enter Tryd.func43, Tryd.ntmps43
    go_wp2_with fail
    rw [unhide HW]
    refine (unhide q2).mono ?_
    rintro e w1 ⟨⟨v, rfl, hv⟩, hb⟩
    have HV := hide hv
    have B1 := hide (bTr (unhide B) hb)
    clear hv hb q2 hst HW B
    go_wp2_with fail
    go_ret
    have hle := unhide HL
    refine ⟨retB (b := !v) ⟨fun h => ?_, fun h => ?_⟩, unhide B1⟩
    · cases v
      · refine ⟨by omega, ?_⟩
        have := unhide HV
        exact Classical.byContradiction fun hn => by have := this.2 hn; cases this
      · cases h
    · cases v
      · rfl
      · exact absurd h.2 ((unhide HV).1 rfl)
  · have d : decide ((h.len : Int) ≤ most) = false := by simpa using h200
    have B := hide (bAl (Below.refl w.heap.size w) (.cells #[.func (.func 25) #[] #[.pointer (some ⟨bc, 0, none⟩)]] 52))
    have hst := @run_store Tryd.prog
    go_enter Tryd.func43, Tryd.ntmps43
    go_wp2_with fail
    go_ret
    have hle := unhide HL
    exact ⟨retB (b := false) ⟨fun h => (by cases h), fun h => absurd h.1 (by omega)⟩, unhide B⟩
set_option maxHeartbeats 400000 in
theorem every_fit (bc : Nat) (P : AtomT → Prop) (h : Hd) (l : List AtomT) (w : World) (hl : l.length ≤ maxLen) (hs : SqA w 0 h l)
    (q : ∀ x ∈ l, ∀ w' : World, Below w.heap.size w w' → Calls Tryd.prog 25 #[.agg #[.int .i64 x.x, .int .i64 x.n, .string x.t, .string x.y], .pointer (some ⟨bc, 0, none⟩)] w' fun e w'' => RetB e (P x) ∧ Below w'.heap.size w' w'') :
    Calls Tryd.prog 24 #[.slice h.a h.len h.cap, .func (.func 25) #[] #[.pointer (some ⟨bc, 0, none⟩)]] w fun e w' => RetB e (∀ x ∈ l, P x) ∧ Below w.heap.size w w' := by
  have Q := hide (goodList_fit bc P h.len h l w hl hs q)
  have HL := hide hs.1
  clear hs q hl
  go_enter Tryd.func24, Tryd.ntmps24
  go_wp2_with fail
  refine (unhide Q).mono ?_
  rintro e w1 ⟨⟨v, rfl, hv⟩, hb⟩
  have HV := hide hv
  clear hv Q
  go_wp2_with fail
  go_ret
  exact ⟨retB (b := v) ((unhide HV).trans ⟨fun h => h.2, fun h => ⟨by have := unhide HL; omega, h⟩⟩), hb⟩
def Fits (v : ValT) (kind : ByteArray) : Prop :=
  GoodVal v ∧ ((hdB kind setP = false ∧ v.k = 1 ∧ akind v.a = kind) ∨ (hdB kind setP = true ∧ v.k = 2 ∧ baseOk (rest4 kind) ∧ ∀ a ∈ v.items, akind a = rest4 kind))
/-- What the program asks. -/
def FitsI (v : ValT) (kind : ByteArray) : Prop :=
  GoodVal v ∧ kindP (fun s => goodName s = true) kind ∧ ((preB kind setP = false ∧ v.k = 1 ∧ akind v.a = kind) ∨ (preB kind setP = true ∧ v.k = 2 ∧ ∀ a ∈ v.items, akind a = cutB kind setP))
theorem cut4 {s p : ByteArray} (h : preB s p = true) (h4 : p.size = 4) : cutB s p = rest4 s := by simp [cutB, rest4, h, h4]
theorem kindP_base (kind : ByteArray) : kindP (fun s => goodName s = true) kind ↔ baseOk (cutB kind setP) := by
  unfold kindP baseOk
  generalize cutB kind setP = K
  constructor
  · rintro (⟨h1, h2⟩ | ⟨_, h2⟩)
    · rw [cut4 h1 refP_size] at h2
      refine .inr ⟨(hd_pre _ _).2 ⟨h1, fun e => ?_⟩, h2⟩
      rw [refP_size] at e
      have : (rest4 K).size = 0 := by simp [rest4, e]
      have h3 := goodName_size (s := rest4 K) (.inl (by omega))
      rw [h3] at h2
      cases h2
    · exact .inl h2
  · rintro (h | ⟨h1, h2⟩)
    · exact .inr ⟨(six_pre K h).1, h⟩
    · have := ((hd_pre _ _).1 h1).1
      exact .inl ⟨this, by rw [cut4 this refP_size]; exact h2⟩
theorem base_akind {A : AtomT} (h : A.good = true) : baseOk (akind A) := by
  unfold akind
  split
  · rename_i h4
    have hn := good_ref h h4
    have h1 : 1 ≤ A.y.size := by
      apply Classical.byContradiction
      intro hx
      rw [goodName_size (.inl (by omega))] at hn
      cases hn
    have hz : ((⟨#[114, 101, 102, 32]⟩ : ByteArray) ++ A.y).size = 4 + A.y.size := by simp; rfl
    refine .inr ⟨?_, ?_⟩
    · unfold hdB
      rw [refP_size, hz]
      have e : ((⟨#[114, 101, 102, 32]⟩ : ByteArray) ++ A.y).extract 0 4 = refP := by
        have := ByteArray.extract_append_eq_left (a := (⟨#[114, 101, 102, 32]⟩ : ByteArray)) (b := A.y) (i := 4) rfl
        exact this
      rw [e]
      simp; omega
    · have e : rest4 ((⟨#[114, 101, 102, 32]⟩ : ByteArray) ++ A.y) = A.y := by
        unfold rest4
        have := ByteArray.extract_append_eq_right (a := (⟨#[114, 101, 102, 32]⟩ : ByteArray)) (b := A.y) (i := 4) (j := ((⟨#[114, 101, 102, 32]⟩ : ByteArray) ++ A.y).size) rfl (by rw [hz]; rfl)
        exact this
      rw [e]; exact hn
  · rename_i h4
    left
    unfold wordK
    have := good_kind h
    simp only [six, List.mem_cons]
    repeat' split
    all_goals simp_all
theorem base_set {b : ByteArray} (h : baseOk b) : preB b setP = false := by
  rcases h with h | ⟨h, _⟩
  · exact (six_pre b h).2
  · have h2 := ((hd_pre _ _).1 h).1
    unfold preB at h2 ⊢
    simp only [Bool.and_eq_true, decide_eq_true_iff, refP_size, setP_size] at h2 ⊢
    have e : (b.extract 0 4).toList = refP.toList := by simpa using h2.2
    rw [e]
    have : (refP.toList == setP.toList) = false := by first | decide | kernel_rfl | decide +kernel
    rw [this]; simp
theorem goodVal_atom {v : ValT} (h : GoodVal v) (h1 : v.k = 1) : v.a.good = true := by
  obtain ⟨k, a, i, n⟩ := v
  simp only at h1
  subst h1
  exact ((goodVal_1 a i n).1 h).1
theorem goodVal_items {v : ValT} (h : GoodVal v) : ∀ a ∈ v.items, AtomT.good a = true := by
  obtain ⟨k, a, i, n⟩ := v
  by_cases h1 : k = 1
  · subst h1
    rw [goodVal_1] at h
    intro a ha
    rw [show i = [] from h.2.1] at ha
    cases ha
  by_cases h2 : k = 2
  · subst h2
    rw [goodVal_2] at h
    intro a ha
    obtain ⟨j, hj, rfl⟩ := List.getElem_of_mem ha
    exact h.2.2.1 j hj hj
  by_cases h3 : k = 3
  · subst h3
    rw [goodVal_3] at h
    intro a ha
    obtain ⟨j, hj, rfl⟩ := List.getElem_of_mem ha
    exact h.2.2.1 j hj hj
  · exfalso
    unfold GoodVal at h
    simp_all
theorem fits_iff (v : ValT) (kind : ByteArray) : FitsI v kind ↔ Fits v kind := by
  unfold FitsI Fits
  constructor
  · rintro ⟨hg, hk, h⟩
    rw [kindP_base] at hk
    refine ⟨hg, ?_⟩
    rcases h with ⟨h1, h2, h3⟩ | ⟨h1, h2, h3⟩
    · left
      refine ⟨?_, h2, h3⟩
      cases e : hdB kind setP
      · rfl
      · have := ((hd_pre _ _).1 e).1; rw [h1] at this; cases this
    · right
      rw [cut4 h1 setP_size] at hk h3
      refine ⟨(hd_pre _ _).2 ⟨h1, fun e => ?_⟩, h2, hk, h3⟩
      rw [setP_size] at e
      have hz : (rest4 kind).size = 0 := by simp [rest4, e]
      rcases hk with hk | ⟨hk, _⟩
      · have : ∀ b ∈ six, 0 < b.size := by
          intro b hb
          simp only [six, List.mem_cons, List.not_mem_nil, or_false] at hb
          rcases hb with rfl | rfl | rfl | rfl | rfl | rfl <;> decide
        have := this _ hk
        omega
      · unfold hdB at hk
        simp only [Bool.and_eq_true, decide_eq_true_iff] at hk
        have := hk.1
        omega
  · rintro ⟨hg, h⟩
    rcases h with ⟨h1, h2, h3⟩ | ⟨h1, h2, h4, h3⟩
    · have hb := base_akind (goodVal_atom hg h2)
      rw [h3] at hb
      have hp := base_set hb
      refine ⟨hg, ?_, .inl ⟨hp, h2, h3⟩⟩
      rw [kindP_base]
      have : cutB kind setP = kind := by simp [cutB, hp]
      rw [this]; exact hb
    · have hp := ((hd_pre _ _).1 h1).1
      refine ⟨hg, ?_, .inr ⟨hp, h2, by rw [cut4 hp setP_size]; exact h3⟩⟩
      rw [kindP_base, cut4 hp setP_size]; exact h4
end Go.Proofs.YtkfbecelfkbkkaaDoor.V
