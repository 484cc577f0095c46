/- Rings of keys: impl.goodKey, goodList, risingByName, GoodRing. -/
import Derived.Test.YtenbliiombjldaaKGk
import Derived.Test.YtenbliiombjldaaGCmp
import Derived.Test.YtenbliiombjldaaTId
import Derived.Test.YtenbliiombjldaaKPu
import Derived.Test.YtenbliiombjldaaQKept
namespace Go.Proofs.Ytenbliiombjldaa
open Go.RowKit
set_option maxRecDepth 20000

structure Hd where
  a : Option Addr
  len : Nat
  cap : Nat
def SqKeyF (w : World) (_ : Nat) (h : Hd) (l : List KeyT) : Prop := SlKey w h.a h.len l
theorem SqKeyF.keep {w w1 : World} {lo : Nat} {h : Hd} {l : List KeyT} (k : SqKeyF w lo h l) (hb : Below w.heap.size w w1) : SqKeyF w1 lo h l := SlKey.keep k hb
theorem SqKeyF.at {w : World} {lo : Nat} {h : Hd} {l : List KeyT} (q : SqKeyF w lo h l) {k : Nat} (hk : k < h.len) : ∃ b off, h.a = some ⟨b, off, none⟩ ∧ KeyRow w b off l := SlKey.at q hk
/-- A good key. -/
def KeyP (x : KeyT) : Prop := idB x.f0 = true ∧ D.pubB x.f1 = true ∧ 0 ≤ x.f2 ∧ x.f2 ≤ x.f3 ∧ x.f3 ≤ 100000000000
/-- A good ring. -/
def RingP (l : List KeyT) : Prop := (l.length : Int) ≤ 10 ∧ (∀ x ∈ l, KeyP x) ∧ ∀ i (h : i + 1 < l.length), cmpT l[i].f0.data.toList l[i + 1].f0.data.toList < 0

theorem between_any (a b c : Int) (w : World) : Calls Try.prog 17 #[.int .i64 a, .int .i64 b, .int .i64 c] w fun e w' => e = .returned (.bool (decide (a ≤ b ∧ b ≤ c))) ∧ w = w' := by
  go_enter Try.func17, Try.ntmps17
  go_wp2
  all_goals go_ret
  all_goals refine ⟨ret_bool ?_, rfl⟩
  all_goals (rw [Bool.eq_iff_iff]; simp; try omega)

set_option maxHeartbeats 1000000 in
theorem goodKey_any (x : KeyT) (w : World) (hx : x.f0.size ≤ maxLen) :
    Calls Try.prog 28 #[.agg #[.string x.f0, .int .i64 x.f1, .int .i64 x.f2, .int .i64 x.f3]] w fun e w' => RetB e (KeyP x) ∧ Below w.heap.size w w' := by
  obtain ⟨f0, f1, f2, f3⟩ := x
  simp only at hx ⊢
  have q1 := hide (fun w => isId_any f0 hx w)
  have q2 := hide (fun w => D.iPublic_p f1 w)
  have q3 := hide (fun w => between_any f2 f3 100000000000 w)
  have HP : Hid (KeyP ⟨f0, f1, f2, f3⟩ ↔ (idB f0 = true ∧ D.pubB f1 = true ∧ 0 ≤ f2 ∧ f2 ≤ f3 ∧ f3 ≤ 100000000000)) := hide Iff.rfl
  obtain ⟨W, hW⟩ : ∃ W, W = w.alloc (.cells #[.string f0, .int .i64 f1, .int .i64 f2, .int .i64 f3] 30) := ⟨_, rfl⟩
  have B := hide (show Below w.heap.size w W by rw [hW]; exact bAl (Below.refl _ _) _)
  have R := show RowIs W w.heap.size #[.string f0, .int .i64 f1, .int .i64 f2, .int .i64 f3] 30 by rw [hW]; exact RowIs.new _ _ _
  have HW := hide hW.symm
  have HR := hide R
  have x0 := R.at (o := 0) (v := .string f0) rfl
  clear hW
  go_enter Try.func28, Try.ntmps28
  generalize KeyP ⟨f0, f1, f2, f3⟩ = PP at HP
  generalize idB f0 = b1 at q1 HP
  generalize D.pubB f1 = b2 at q2 HP
  go_wp2_with fail
  rw [unhide HW]
  go_wp2_with fail
  refine (unhide q1 _).mono ?_
  rintro e w1 ⟨rfl, hb⟩
  have B1 := hide (bTr (unhide B) hb)
  have R1 := (unhide HR).keep hb
  have y1 := R1.at (o := 1) (v := .int .i64 f1) rfl
  have y2 := R1.at (o := 2) (v := .int .i64 f2) rfl
  have y3 := R1.at (o := 3) (v := .int .i64 f3) rfl
  clear hb R1 x0 HR R B
  cases b1
  · go_wp2_with fail
    go_ret
    exact ⟨retB (b := false) ⟨fun h => (by cases h), fun h => absurd ((unhide HP).1 h).1 (by simp)⟩, unhide B1⟩
  · cases b2
    · go_wp2_with (go_at_call 40; refine (unhide q2 _).mono ?_; rintro e w' ⟨rfl, rfl⟩)
      go_ret
      exact ⟨retB (b := false) ⟨fun h => (by cases h), fun h => absurd ((unhide HP).1 h).2.1 (by simp)⟩, unhide B1⟩
    · by_cases h0 : 0 ≤ f2
      · go_wp2_with (first | (go_at_call 40; refine (unhide q2 _).mono ?_; rintro e w' ⟨rfl, rfl⟩) | (go_at_call 17; refine (unhide q3 _).mono ?_; rintro e w' ⟨rfl, rfl⟩))
        go_ret
        exact ⟨retB ⟨fun h => (unhide HP).2 ⟨by trivial, by trivial, h0, by simpa using h⟩, fun h => by have := ((unhide HP).1 h).2.2.2; simpa using this⟩, unhide B1⟩
      · go_wp2_with (go_at_call 40; refine (unhide q2 _).mono ?_; rintro e w' ⟨rfl, rfl⟩)
        go_ret
        exact ⟨retB (b := false) ⟨fun h => (by cases h), fun h => absurd ((unhide HP).1 h).2.2.1 (by omega)⟩, unhide B1⟩
set_option maxHeartbeats 1000000 in
theorem notGood_Key  (P : KeyT → Prop) (b : Nat) (x : KeyT) (w : World) (hc : w.cell? ⟨b, 0, none⟩ = some (.func (.func 28) #[] #[]))
    (q : ∀ w' : World, Below w.heap.size w w' → Calls Try.prog 28 #[.agg #[.string x.f0, .int .i64 x.f1, .int .i64 x.f2, .int .i64 x.f3]] w' fun e w'' => RetB e (P x) ∧ Below w'.heap.size w' w'') :
    Calls Try.prog 38 #[.agg #[.string x.f0, .int .i64 x.f1, .int .i64 x.f2, .int .i64 x.f3], .pointer (some ⟨b, 0, none⟩)] w fun e w' => RetB e (¬ P x) ∧ Below w.heap.size w w' := by
  have HB := hide (bAl (Below.refl w.heap.size w) (.cells #[.string x.f0, .int .i64 x.f1, .int .i64 x.f2, .int .i64 x.f3] 30))
  have zb : b < w.heap.size := World.block_lt_of_cell? w ⟨b, 0, none⟩ hc
  have Q := hide (q _ (unhide HB))
  clear q
  go_enter Try.func38, Try.ntmps38
  go_wp2_with fail
  refine (unhide Q).mono ?_
  rintro e w1 ⟨⟨v, rfl, hv⟩, hb⟩
  have B1 := hide (bTr (unhide HB) hb)
  have HV := hide hv
  clear hb HB Q hc hv
  go_wp2_with fail
  go_ret
  refine ⟨retB (b := !v) ?_, unhide B1⟩
  rw [← unhide HV]; cases v <;> simp
set_option maxHeartbeats 1000000 in
theorem indexBad_Key  (P : KeyT → Prop) (b : Nat) (h : Hd) (l : List KeyT) (w : World) (hl : l.length ≤ maxLen) (hs : SqKeyF w 0 h l) (hc : w.cell? ⟨b, 0, none⟩ = some (.func (.func 28) #[] #[]))
    (q : ∀ x ∈ l, ∀ w' : World, Below w.heap.size w w' → Calls Try.prog 28 #[.agg #[.string x.f0, .int .i64 x.f1, .int .i64 x.f2, .int .i64 x.f3]] w' fun e w'' => RetB e (P x) ∧ Below w'.heap.size w' w'') :
    Calls Try.prog 54 #[.slice h.a h.len h.cap, .func (.func 38) #[] #[.pointer (some ⟨b, 0, none⟩)]] w fun e w' => (∃ v : Int, e = .returned (.int .i64 v) ∧ (0 ≤ v ↔ ¬ ∀ x ∈ l, P x)) ∧ Below w.heap.size w w' := by
  have HS := hide hs
  have zb : b < w.heap.size := World.block_lt_of_cell? w ⟨b, 0, none⟩ hc
  have HC := hide (fun (w' : World) (h : Below w.heap.size w w') => cellB (w' := w') h zb hc)
  have HQ := hide q
  have HL := hide hs.1
  have hlm : h.len ≤ maxLen := by rw [hs.1]; exact hl
  unfold maxLen at hlm
  obtain ⟨a, len, cap⟩ := h
  simp only at hlm HL
  clear hs hc q hl
  go_enter Try.func54, Try.ntmps54
  go_wp2_with fail
  go_loopw [8] (fun i w' => ∃ k : Nat, k ≤ len ∧ i = .int .i64 k ∧ Hid (Below w.heap.size w w') ∧ Hid (∀ i (h : i < l.length), i < k → P l[i])) (fun i _ => len - (Go.RowKit.intOf i).toNat)
  case atStart => exact ⟨0, Nat.zero_le _, rfl, hide (Below.refl _ _), hide (fun i _ h => absurd h (Nat.not_lt_zero _))⟩
  case round =>
    obtain ⟨k, hk, rfl, hb, hA⟩ := hrel
    by_cases hlt : k < len
    · have hk' : k < l.length := by have := unhide HL; omega
      obtain ⟨bb_, off, e0, hrow⟩ := ((unhide HS).keep (unhide hb)).at hlt
      simp only at e0
      subst e0
      have c0 := hrow.c0 k hk'
      have c1 := hrow.c1 k hk'
      have c2 := hrow.c2 k hk'
      have c3 := hrow.c3 k hk'
      have zk := hrow.z
      have q := hide (notGood_Key  P b l[k] wr (unhide HC _ (unhide hb)) (fun w' h => unhide HQ _ (List.getElem_mem hk') w' (bTr (unhide hb) h)))
      have eS : Hid (P l[k] → ∀ i (h : i < l.length), i < k + 1 → P l[i]) := hide (fun g i hi h1 => by
        rcases Nat.lt_or_ge i k with h2 | h2
        · exact unhide hA i hi h2
        · obtain rfl : i = k := by omega
          exact g)
      have eN : Hid (¬ P l[k] → ¬ ∀ x ∈ l, P x) := hide (fun g h => g (h _ (List.getElem_mem hk')))
      clear hrow
      generalize l[k] = A at *
      go_wp2_with fail
      refine (unhide q).mono ?_
      rintro e w1 ⟨⟨v, rfl, hv⟩, hb1⟩
      have B1 := hide (bTr (unhide hb) hb1)
      have HV := hide hv
      clear hb1 q hv c0 c1 c2 c3
      cases v
      · have S := hide (unhide eS (Classical.byContradiction fun h => by have := (unhide HV).2 h; cases this))
        clear eS eN HV
        go_wp2_with fail
        exact ⟨⟨k + 1, by omega, by go_num, B1, S⟩, by simp [Go.RowKit.intOf]; omega⟩
      · have N := hide (unhide eN ((unhide HV).1 rfl))
        clear eS eN HV
        go_wp2_with fail
        go_ret
        exact ⟨⟨_, rfl, fun _ => unhide N, fun _ => by omega⟩, unhide B1⟩
    · have S : Hid (∀ x ∈ l, P x) := hide (fun x hx => by
        obtain ⟨i, hi, rfl⟩ := List.getElem_of_mem hx
        exact unhide hA i hi (by have := unhide HL; omega))
      go_wp2_with fail
      go_ret
      exact ⟨⟨_, rfl, fun h => absurd h (by decide), fun h => absurd (unhide S) h⟩, unhide hb⟩
set_option maxHeartbeats 1000000 in
theorem goodList_Key  (P : KeyT → Prop) (most : Int) (h : Hd) (l : List KeyT) (w : World) (hl : l.length ≤ maxLen) (hs : SqKeyF w 0 h l)
    (q : ∀ x ∈ l, ∀ w' : World, Below w.heap.size w w' → Calls Try.prog 28 #[.agg #[.string x.f0, .int .i64 x.f1, .int .i64 x.f2, .int .i64 x.f3]] w' fun e w'' => RetB e (P x) ∧ Below w'.heap.size w' w'') :
    Calls Try.prog 27 #[.slice h.a h.len h.cap, .int .i64 most, .func (.func 28) #[] #[]] w fun e w' => RetB e ((l.length : Int) ≤ most ∧ ∀ x ∈ l, P x) ∧ Below w.heap.size w w' := by
  have HS := hide hs
  have HQ := hide q
  have HL := hide hs.1
  have HM := hide hl
  clear hs q hl
  by_cases h200 : (h.len : Int) ≤ most
  · obtain ⟨W, hW⟩ : ∃ W, W = w.alloc (.cells #[.func (.func 28) #[] #[]] 47) := ⟨_, rfl⟩
    have R := show RowIs W w.heap.size #[.func (.func 28) #[] #[]] 47 by rw [hW]; exact RowIs.new _ _ _
    have B := hide (show Below w.heap.size w W by rw [hW]; exact bAl (Below.refl _ _) _)
    have HW := hide hW.symm
    clear hW
    have q := hide (fun hc => indexBad_Key  P w.heap.size h l W (unhide HM) ((unhide HS).keep (unhide B)) hc (fun x hx w' h => unhide HQ x hx w' (bTr (unhide B) h)))
    have q2 : Hid (Calls Try.prog 37 #[.slice h.a h.len h.cap, .func (.func 38) #[] #[.pointer (some ⟨w.heap.size, 0, none⟩)]] W fun e w' => (∃ v : Bool, e = .returned (.bool v) ∧ (v = true ↔ ¬ ∀ x ∈ l, P x)) ∧ Below W.heap.size W w') := hide (by
      have q := hide (unhide q (R.at (o := 0) rfl))
      go_enter Try.func37, Try.ntmps37
      go_wp2_with fail
      refine (unhide q).mono ?_
      rintro e w1 ⟨⟨v, rfl, hv⟩, hb⟩
      have HV := hide hv
      clear hv
      go_wp2_with fail
      go_ret
      exact ⟨⟨decide (0 ≤ v), rfl, by rw [decide_eq_true_iff]; exact unhide HV⟩, hb⟩)
    have hst := @run_store Try.prog
    clear q R
    go_enter Try.func27, Try.ntmps27
    go_wp2_with fail
    rw [unhide HW]
    refine (unhide q2).mono ?_
    rintro e w1 ⟨⟨v, rfl, hv⟩, hb⟩
    have HV := hide hv
    have B1 := hide (bTr (unhide B) hb)
    clear hv hb q2 hst HW B
    go_wp2_with fail
    go_ret
    have hle := unhide HL
    refine ⟨retB (b := !v) ⟨fun h => ?_, fun h => ?_⟩, unhide B1⟩
    · cases v
      · refine ⟨by omega, ?_⟩
        have := unhide HV
        exact Classical.byContradiction fun hn => by have := this.2 hn; cases this
      · cases h
    · cases v
      · rfl
      · exact absurd h.2 ((unhide HV).1 rfl)
  · have d : decide ((h.len : Int) ≤ most) = false := by simpa using h200
    have B := hide (bAl (Below.refl w.heap.size w) (.cells #[.func (.func 28) #[] #[]] 47))
    have hst := @run_store Try.prog
    go_enter Try.func27, Try.ntmps27
    go_wp2_with fail
    go_ret
    have hle := unhide HL
    exact ⟨retB (b := false) ⟨fun h => (by cases h), fun h => absurd h.1 (by omega)⟩, unhide B⟩
set_option maxHeartbeats 400000 in
theorem keyName_any (x : KeyT) (w : World) : Calls Try.prog 30 #[.agg #[.string x.f0, .int .i64 x.f1, .int .i64 x.f2, .int .i64 x.f3]] w fun r w' => r = .returned (.string x.f0) ∧ Below w.heap.size w w' := by
  go_enter Try.func30, Try.ntmps30
  go_wp2_with fail
  go_ret
  exact ⟨rfl, bAl (Below.refl _ _) _⟩
set_option maxRecDepth 20000 in
set_option maxHeartbeats 2000000 in
theorem keyBy_any (bc : Nat) (P Q : KeyT) (w : World) (hc : w.cell? ⟨bc, 0, none⟩ = some (.func (.func 30) #[] #[])) :
    Calls Try.prog 42 #[.agg #[.string P.f0, .int .i64 P.f1, .int .i64 P.f2, .int .i64 P.f3], .agg #[.string Q.f0, .int .i64 Q.f1, .int .i64 Q.f2, .int .i64 Q.f3], .pointer (some ⟨bc, 0, none⟩)] w fun r w' => r = .returned (.int .i64 (cmpT P.f0.data.toList Q.f0.data.toList)) ∧ Below w.heap.size w w' := by
  have zb : bc < w.heap.size := World.block_lt_of_cell? w ⟨bc, 0, none⟩ hc
  obtain ⟨W, hW⟩ : ∃ W, W = (w.alloc (.cells #[.string P.f0, .int .i64 P.f1, .int .i64 P.f2, .int .i64 P.f3] 30)).alloc (.cells #[.string Q.f0, .int .i64 Q.f1, .int .i64 Q.f2, .int .i64 Q.f3] 30) := ⟨_, rfl⟩
  have bW : Below w.heap.size w W := by rw [hW]; exact bAl (bAl (Below.refl _ _) _) _
  have rP : RowIs W w.heap.size #[.string P.f0, .int .i64 P.f1, .int .i64 P.f2, .int .i64 P.f3] 30 := by rw [hW]; exact (RowIs.new w _ _).keep (bAl (Below.refl _ _) _)
  have rQ : RowIs W (w.heap.size + 1) #[.string Q.f0, .int .i64 Q.f1, .int .i64 Q.f2, .int .i64 Q.f3] 30 := by rw [hW]; have := RowIs.new (w.alloc (.cells #[.string P.f0, .int .i64 P.f1, .int .i64 P.f2, .int .i64 P.f3] 30)) #[.string Q.f0, .int .i64 Q.f1, .int .i64 Q.f2, .int .i64 Q.f3] 30; simpa using this
  have HW := hide hW
  have x0 := kept_cell (W := W) (p := ⟨w.heap.size, 0, none⟩) rP.lt (rP.at (o := 0) (v := .string P.f0) rfl)
  have y0 := kept_cell (W := W) (p := ⟨w.heap.size + 1, 0, none⟩) rQ.lt (rQ.at (o := 0) (v := .string Q.f0) rfl)
  have x1 := kept_cell (W := W) (p := ⟨w.heap.size, 1, none⟩) rP.lt (rP.at (o := 1) (v := .int .i64 P.f1) rfl)
  have y1 := kept_cell (W := W) (p := ⟨w.heap.size + 1, 1, none⟩) rQ.lt (rQ.at (o := 1) (v := .int .i64 Q.f1) rfl)
  have x2 := kept_cell (W := W) (p := ⟨w.heap.size, 2, none⟩) rP.lt (rP.at (o := 2) (v := .int .i64 P.f2) rfl)
  have y2 := kept_cell (W := W) (p := ⟨w.heap.size + 1, 2, none⟩) rQ.lt (rQ.at (o := 2) (v := .int .i64 Q.f2) rfl)
  have x3 := kept_cell (W := W) (p := ⟨w.heap.size, 3, none⟩) rP.lt (rP.at (o := 3) (v := .int .i64 P.f3) rfl)
  have y3 := kept_cell (W := W) (p := ⟨w.heap.size + 1, 3, none⟩) rQ.lt (rQ.at (o := 3) (v := .int .i64 Q.f3) rfl)
  have z0 := kept_cell (W := W) (p := ⟨bc, 0, none⟩) (Nat.lt_of_lt_of_le zb bW.size) (cellB bW zb hc)
  have ne : Nonempty (Kept W) := ⟨⟨W, Below.refl _ _⟩⟩
  have qP := hide (fun (q : Kept W) => keyName_any P q.w)
  have qQ := hide (fun (q : Kept W) => keyName_any Q q.w)
  have qc := hide (fun (q : Kept W) => stringsCompare_any P.f0 Q.f0 q.w)
  have BW := hide bW
  generalize cmpT P.f0.data.toList Q.f0.data.toList = cc at qc ⊢
  clear hW hc bW rP rQ zb
  go_enter Try.func42, Try.ntmps42
  go_wp2_with fail
  rw [← unhide HW]
  refine wp_region_kept (by kernel_rfl) (by kernel_rfl) ?_
  repeat (first
    | go_big_quiet_step (first | (go_at_call 30; with_reducible exact kept_call (unhide qP _)) | (go_at_call 30; with_reducible exact kept_call (unhide qQ _)) | (go_at_call 21; exact kept_same (unhide qc _)))
    | quiet_step (first | (go_at_call 30; with_reducible exact kept_call (unhide qP _)) | (go_at_call 30; with_reducible exact kept_call (unhide qQ _)) | (go_at_call 21; exact kept_same (unhide qc _))))
  refine wpQuiet_nil ?_
  rintro _ ⟨q, rfl⟩
  go_wp2_with fail
  go_ret
  exact ⟨rfl, bTr (unhide BW) q.h⟩
set_option maxRecDepth 20000 in
set_option maxHeartbeats 4000000 in
theorem rising_keyBy (bc : Nat) (c : KeyT → KeyT → Int) (h : Hd) (l : List KeyT) (w : World) (hl : l.length ≤ maxLen) (hs : SqKeyF w 0 h l)
    (qq : ∀ x ∈ l, ∀ y ∈ l, ∀ w' : World, Below w.heap.size w w' → Calls Try.prog 42 #[.agg #[.string x.f0, .int .i64 x.f1, .int .i64 x.f2, .int .i64 x.f3], .agg #[.string y.f0, .int .i64 y.f1, .int .i64 y.f2, .int .i64 y.f3], .pointer (some ⟨bc, 0, none⟩)] w' fun e w'' => e = .returned (.int .i64 (c x y)) ∧ Below w'.heap.size w' w'') :
    Calls Try.prog 41 #[.slice h.a h.len h.cap, .func (.func 42) #[] #[.pointer (some ⟨bc, 0, none⟩)]] w fun e w' => RetB e (∀ i (h : i + 1 < l.length), c l[i] l[i + 1] < 0) ∧ Below w.heap.size w w' := by
  have HS := hide hs
  have HQ := hide qq
  have HL := hide hs.1
  have hlm : h.len ≤ maxLen := by rw [hs.1]; exact hl
  unfold maxLen at hlm
  obtain ⟨a, len, cap⟩ := h
  simp only at hlm HL
  clear hs qq hl
  go_enter Try.func41, Try.ntmps41
  go_wp2
  go_loopw [5] (fun i w' => ∃ k : Nat, 1 ≤ k ∧ (k ≤ len ∨ k = 1) ∧ i = .int .i64 k ∧ Hid (Below w.heap.size w w') ∧ Hid (∀ i (h : i + 1 < l.length), i + 1 < k → c l[i] l[i + 1] < 0)) (fun i _ => len - (Go.RowKit.intOf i).toNat)
  case atStart => exact ⟨1, Nat.le_refl _, .inr rfl, rfl, hide (Below.refl _ _), hide (fun i _ h => absurd h (by omega))⟩
  case round =>
    obtain ⟨k, hk1, hk, rfl, hb, hris⟩ := hrel
    by_cases hlt : k < len
    · obtain ⟨j, rfl⟩ : ∃ j, k = j + 1 := ⟨k - 1, by omega⟩
      have hk' : j + 1 < l.length := by have := unhide HL; omega
      have hj : j < l.length := by omega
      obtain ⟨bb_, off, e0, hrow⟩ := ((unhide HS).keep (unhide hb)).at hlt
      simp only at e0
      subst e0
      have p0 := hrow.c0 (j + 1) hk'
      have p1 := hrow.c1 (j + 1) hk'
      have p2 := hrow.c2 (j + 1) hk'
      have p3 := hrow.c3 (j + 1) hk'
      have o0 := hrow.c0 j hj
      have o1 := hrow.c1 j hj
      have o2 := hrow.c2 j hj
      have o3 := hrow.c3 j hj
      have zk := hrow.z
      have qc := hide (fun (q : Kept wr) => unhide HQ l[j] (List.getElem_mem hj) l[j + 1] (List.getElem_mem hk') q.w (bTr (unhide hb) q.h))
      have stepR : Hid (c l[j] l[j + 1] < 0 → ∀ i (h : i + 1 < l.length), i + 1 < j + 1 + 1 → c l[i] l[i + 1] < 0) := hide (fun g i hi h1 => by
        rcases Nat.lt_or_ge i j with h2 | h2
        · exact unhide hris i hi (by omega)
        · obtain rfl : i = j := by omega
          exact g)
      have noR : Hid (¬ c l[j] l[j + 1] < 0 → ¬ ∀ i (h : i + 1 < l.length), c l[i] l[i + 1] < 0) := hide (fun g h => g (h j hk'))
      clear hrow hris
      generalize c l[j] l[j + 1] = cc at qc stepR noR
      generalize l[j + 1] = P at p0 p1 p2 p3 qc
      generalize l[j] = Q at o0 o1 o2 o3 qc
      have ne : Nonempty (Kept wr) := ⟨⟨wr, Below.refl _ _⟩⟩
      have x0 := kept_cell zk p0
      have y0 := kept_cell zk o0
      have x1 := kept_cell zk p1
      have y1 := kept_cell zk o1
      have x2 := kept_cell zk p2
      have y2 := kept_cell zk o2
      have x3 := kept_cell zk p3
      have y3 := kept_cell zk o3
      have ej : IntKind.i64.wrap ((j : Int) + 1 - 1) = (j : Int) := by rw [IntKind.wrap_i64]; omega
      have i0 : (0 : Int) ≤ (j : Int) := by omega
      have i1 : (j : Int) < (len : Int) := by omega
      have i2 : (j : Int) + 1 < (len : Int) := by omega
      clear p0 o0 p1 o1 p2 o2 p3 o3 zk
      by_cases hc : cc < 0
      · have dc : decide (0 ≤ cc) = false := by simp; omega
        replace stepR := hide (unhide stepR hc)
        clear hc noR
        go_wp2_with fail
        refine wp_region_kept (by kernel_rfl) (by kernel_rfl) ?_
        repeat (first
          | go_big_quiet_step ((go_at_call 42; exact kept_call (unhide qc _)))
          | quiet_step ((go_at_call 42; exact kept_call (unhide qc _))))
        refine wpQuiet_nil ?_
        rintro _ ⟨q, rfl⟩
        go_wp2_with fail
        exact ⟨⟨j + 1 + 1, by omega, by omega, by go_num, hide (bTr (unhide hb) q.h), stepR⟩, by simp [Go.RowKit.intOf]; omega⟩
      · have dc : decide (0 ≤ cc) = true := by simp; omega
        replace noR := hide (unhide noR hc)
        clear hc stepR
        go_wp2_with fail
        refine wp_region_kept (by kernel_rfl) (by kernel_rfl) ?_
        repeat (first
          | go_big_quiet_step ((go_at_call 42; exact kept_call (unhide qc _)))
          | quiet_step ((go_at_call 42; exact kept_call (unhide qc _))))
        refine wpQuiet_nil ?_
        rintro _ ⟨q, rfl⟩
        go_wp2_with fail
        go_ret
        exact ⟨retB (b := false) ⟨fun h => (by cases h), fun h => absurd h (unhide noR)⟩, bTr (unhide hb) q.h⟩
    · have hR : Hid (∀ i (h : i + 1 < l.length), c l[i] l[i + 1] < 0) := hide (fun i h => unhide hris i h (by have := unhide HL; omega))
      clear hris
      go_wp2_with fail
      go_ret
      exact ⟨retB (b := true) ⟨fun _ => unhide hR, fun _ => rfl⟩, unhide hb⟩
set_option maxHeartbeats 1000000 in
theorem byName_key (h : Hd) (l : List KeyT) (w : World) (hl : l.length ≤ maxLen) (hs : SqKeyF w 0 h l) :
    Calls Try.prog 29 #[.slice h.a h.len h.cap, .func (.func 30) #[] #[]] w fun e w' => RetB e (∀ i (h : i + 1 < l.length), cmpT l[i].f0.data.toList l[i + 1].f0.data.toList < 0) ∧ Below w.heap.size w w' := by
  obtain ⟨W, hW⟩ : ∃ W, W = w.alloc (.cells #[.func (.func 30) #[] #[]] 49) := ⟨_, rfl⟩
  have bW : Below w.heap.size w W := by rw [hW]; exact bAl (Below.refl _ _) _
  have rW : RowIs W w.heap.size #[.func (.func 30) #[] #[]] 49 := by rw [hW]; exact RowIs.new w _ _
  have q := hide (rising_keyBy w.heap.size (fun x y => cmpT x.f0.data.toList y.f0.data.toList) h l W hl (hs.keep bW) (fun x _ y _ w' hb => keyBy_any w.heap.size x y w' ((rW.keep hb).at rfl)))
  have HW := hide hW.symm
  have B := hide bW
  clear hW hs hl bW rW
  go_enter Try.func29, Try.ntmps29
  go_wp2_with fail
  rw [unhide HW]
  refine (unhide q).mono ?_
  rintro e w1 ⟨⟨v, rfl, hv⟩, hb⟩
  have HV := hide hv
  have B1 := hide (bTr (unhide B) hb)
  clear hv hb q HW B
  go_wp2_with fail
  go_ret
  exact ⟨retB (b := v) (unhide HV), unhide B1⟩
set_option maxHeartbeats 1000000 in
theorem iGoodRing_w (a : Option Addr) (len cap : Nat) (l : List KeyT) (w : World) (hl : l.length ≤ maxLen) (hs : SlKey w a len l) (hok : ∀ q ∈ l, q.f0.size ≤ maxLen) :
    Calls Try.prog 16 #[.slice a len cap] w fun e w' => RetB e (RingP l) ∧ Below w.heap.size w w' := by
  have q1 := hide (goodList_Key KeyP 10 ⟨a, len, cap⟩ l w hl hs (fun x hx w' _ => goodKey_any x w' (hok x hx)))
  have HS := hide hs
  have HL := hide hl
  clear hs hl
  go_enter Try.func16, Try.ntmps16
  go_wp2_with fail
  refine (unhide q1).mono ?_
  rintro e w1 ⟨⟨v, rfl, hv⟩, hb⟩
  have HV := hide hv
  have B1 := hide hb
  have q2 := hide (byName_key ⟨a, len, cap⟩ l w1 (unhide HL) ((unhide HS).keep hb))
  clear q1 hv hb HS HL
  cases v
  · go_wp2_with fail
    go_ret
    exact ⟨retB (b := false) ⟨fun h => (by cases h), fun h => absurd ((unhide HV).2 ⟨h.1, h.2.1⟩) (by simp)⟩, unhide B1⟩
  · go_wp2_with fail
    refine (unhide q2).mono ?_
    rintro e w2 ⟨⟨u, rfl, hu⟩, hb⟩
    have HU := hide hu
    have B2 := hide (bTr (unhide B1) hb)
    clear hu hb q2 B1
    go_wp2_with fail
    go_ret
    exact ⟨retB (b := u) ⟨fun h => ⟨((unhide HV).1 (by trivial)).1, ((unhide HV).1 (by trivial)).2, (unhide HU).1 h⟩, fun h => (unhide HU).2 h.2.2⟩, unhide B2⟩
theorem iGoodRing_any (a : Option Addr) (len cap : Nat) (l : List KeyT) (w : World) (hl : l.length ≤ maxLen) (hs : SlKey w a len l) (hok : ∀ q ∈ l, KeyT.Ok q) :
    Calls Try.prog 16 #[.slice a len cap] w fun e w' => RetB e (RingP l) ∧ Below w.heap.size w w' := iGoodRing_w a len cap l w hl hs (fun q h => (hok q h).o0)
end Go.Proofs.Ytenbliiombjldaa
