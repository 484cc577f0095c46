/- Slices of impl.RecoverEvent: in memory, read, sized, copied, held against each other. -/
import Derived.Test.YtoikjamafglilaaGBase
import Derived.ProofKit
import Derived.Deep.Slices
import Derived.Laws.MakeOwn
import Derived.OwnWalk
namespace Go.Proofs.Ytoikjamafglilaa
open Go.ChangeShapes Go.WideShapes Go.RowKit

structure RecoverEventT where
  f0 : Int
  f1 : Int
  f2 : ByteArray
structure RecoverEventT.Ok (x : RecoverEventT) : Prop where
  o0 : (Lit.int .i64 x.f0).wf = true
  o1 : (Lit.int .i64 x.f1).wf = true
  o2 : x.f2.size ≤ maxLen
def encRecoverEvent (x : RecoverEventT) : List Value := [.int .i64 x.f0, .int .i64 x.f1, .string x.f2]
structure RecoverEventRow (w : World) (b off : Nat) (l : List RecoverEventT) : Prop where
  z : b < w.heap.size
  c0 : ∀ i (h : i < l.length), w.cell? ⟨b, off + i * 3, none⟩ = some (.int .i64 l[i].f0)
  c1 : ∀ i (h : i < l.length), w.cell? ⟨b, off + i * 3 + 1, none⟩ = some (.int .i64 l[i].f1)
  c2 : ∀ i (h : i < l.length), w.cell? ⟨b, off + i * 3 + 2, none⟩ = some (.string l[i].f2)
theorem RecoverEventRow.keep {w w1 : World} {b off : Nat} {l : List RecoverEventT} (h : RecoverEventRow w b off l) (hb : Below w.heap.size w w1) : RecoverEventRow w1 b off l :=
  ⟨Nat.lt_of_lt_of_le h.z hb.size, fun i hi => cellB hb h.z (h.c0 i hi), fun i hi => cellB hb h.z (h.c1 i hi), fun i hi => cellB hb h.z (h.c2 i hi)⟩
def SlRecoverEvent (w : World) (a : Option Addr) (len : Nat) (l : List RecoverEventT) : Prop := len = l.length ∧ (l = [] ∨ ∃ b off, a = some ⟨b, off, none⟩ ∧ RecoverEventRow w b off l)
theorem SlRecoverEvent.keep {w w1 : World} {a : Option Addr} {len : Nat} {l : List RecoverEventT} (h : SlRecoverEvent w a len l) (hb : Below w.heap.size w w1) : SlRecoverEvent w1 a len l :=
  ⟨h.1, by
    rcases h.2 with e | ⟨b, off, e, r⟩
    · exact .inl e
    · exact .inr ⟨b, off, e, r.keep hb⟩⟩
theorem SlRecoverEvent.at {w : World} {a : Option Addr} {len : Nat} {l : List RecoverEventT} (h : SlRecoverEvent w a len l) {k : Nat} (hk : k < len) : ∃ b off, a = some ⟨b, off, none⟩ ∧ RecoverEventRow w b off l := by
  rcases h.2 with e | e
  · rw [h.1, e] at hk; simp at hk
  · exact e
theorem bStRecoverEvent {w w' : World} (h : Below w.heap.size w w') (b o : Nat) (hb : w.heap.size ≤ b) (v : Value) : Below w.heap.size w (w'.setCell ⟨b, o, none⟩ v) := h.setCell hb v
set_option maxHeartbeats 400000 in
theorem toRecoverEvent_any (f0 : Int) (f1 : Int) (f2 : ByteArray) (w : World) :
    Calls Try.prog 21 #[.agg #[.int .i64 f0, .int .i64 f1, .string f2]] w fun e w' => e = .returned (.agg #[.int .i64 f0, .int .i64 f1, .string f2]) ∧ Below w.heap.size w w' := by
  go_enter Try.func21, Try.ntmps21
  go_wp2
  exact bodyPost_ret (v := .agg #[.int .i64 f0, .int .i64 f1, .string f2]) (by simp [results, Try.results21, go_sem]) rfl ⟨rfl, bAl (bAl (bAl (Below.refl _ _) _) _) _⟩
set_option maxHeartbeats 400000 in
theorem eqRecoverEvent_same (f0 : Int) (f1 : Int) (f2 : ByteArray) (w : World) :
    Calls Try.prog 25 #[.agg #[.int .i64 f0, .int .i64 f1, .string f2], .agg #[.int .i64 f0, .int .i64 f1, .string f2]] w fun e w' => e = .returned (.bool true) ∧ Below w.heap.size w w' := by
  go_enter Try.func25, Try.ntmps25
  go_wp2
  go_ret
  exact ⟨rfl, bAl (bAl (Below.refl _ _) _) _⟩
set_option maxHeartbeats 400000 in
theorem szRecoverEvent_any (f0 : Int) (f1 : Int) (f2 : ByteArray) (l : Int) (w : World) (h0 : 0 ≤ l) (h1 : l ≤ 1048576) (s2 : f2.size ≤ maxLen) :
    Calls Try.prog 17 #[.agg #[.int .i64 f0, .int .i64 f1, .string f2], .int .i64 l] w fun e w' => (∃ m : Int, -1 ≤ m ∧ m ≤ l ∧ e = .returned (.int .i64 m)) ∧ Below w.heap.size w w' := by
  unfold maxLen at s2
  go_enter Try.func17, Try.ntmps17
  go_wp2
  all_goals go_ret
  all_goals exact ⟨⟨_, by omega, by omega, rfl⟩, bAl (Below.refl _ _) _⟩
set_option maxHeartbeats 400000 in
theorem szRecoverEventS_any (a : Option Addr) (len cap : Nat) (l : List RecoverEventT) (left : Int) (w : World) (h0 : 0 ≤ left) (h1 : left ≤ 1048576) (hl : len ≤ maxLen) (hs : SlRecoverEvent w a len l) (hok : ∀ q ∈ l, RecoverEventT.Ok q) :
    Calls Try.prog 5 #[.slice a len cap, .int .i64 left] w fun e w' => (∃ m : Int, -1 ≤ m ∧ m ≤ left ∧ (0 ≤ m → (len : Int) ≤ left) ∧ e = .returned (.int .i64 m)) ∧ Below w.heap.size w w' := by
  unfold maxLen at hl
  by_cases hlen : left < (len : Int)
  · clear hs hok
    go_enter Try.func5, Try.ntmps5
    go_wp2
    go_ret
    exact ⟨⟨-1, by omega, by omega, by omega, rfl⟩, Below.refl _ _⟩
  have d1 : decide (left - (len : Int) < 0) = false := by simp; omega
  have HS := hide hs
  clear hs
  go_enter Try.func5, Try.ntmps5
  go_wp2
  go_loopw [1, 5] (fun m i w' => ∃ (k : Nat) (q : Int), k ≤ len ∧ 0 ≤ q ∧ q ≤ left ∧ i = .int .i64 k ∧ m = .int .i64 q ∧ Below w.heap.size w w') (fun _ i _ => len - (Go.RowKit.intOf i).toNat)
  case atStart => exact ⟨0, _, Nat.zero_le _, by omega, by omega, rfl, rfl, Below.refl _ _⟩
  case round =>
    obtain ⟨k, q, hk, hq1, hq2, rfl, rfl, hbel⟩ := hrel
    by_cases hlt : k < len
    · obtain ⟨b, off, rfl, hrow⟩ := ((unhide HS).keep hbel).at hlt
      have hk' : k < l.length := by rw [← (unhide HS).1]; exact hlt
      have c0 := hrow.c0 k hk'
      have c1 := hrow.c1 k hk'
      have c2 := hrow.c2 k hk'
      have ho := hok _ (List.getElem_mem hk')
      have hz := hide (fun q w h0 h1 => szRecoverEvent_any (l[k]).f0 (l[k]).f1 (l[k]).f2 q w h0 h1 ho.o2)
      clear hrow ho hok
      generalize l[k] = A at hz c0 c1 c2
      go_wp2_with fail
      refine (unhide hz _ _ (by omega) (by omega)).mono ?_
      rintro e w1 ⟨⟨m, hm1, hm2, rfl⟩, hb1⟩
      by_cases hm : m < 0
      · go_wp2_with fail
        go_ret
        exact ⟨⟨-1, by omega, by omega, by omega, rfl⟩, bTr hbel hb1⟩
      · go_wp2_with fail
        exact ⟨⟨k + 1, m, by omega, by omega, by omega, by go_num, rfl, bTr hbel hb1⟩, by simp [Go.RowKit.intOf]; omega⟩
    · go_wp2_with fail
      go_ret
      exact ⟨⟨q, by omega, by omega, by omega, rfl⟩, hbel⟩
theorem info_RecoverEvent : (Try.prog.info? 45).map (fun i => (i.zero, i.size, i.bytes)) = some (some (.agg #[.int .i64 0, .int .i64 0, .string ByteArray.empty]), 3, 32) := by kernel_rfl
theorem make_RecoverEvent (len : Nat) (w : World) (h : len ≤ 1048576) : ∃ w1 C, (Instr.makeSlice 29 (.int .i64 (len : Int)) (.int .i64 (len : Int))).run Try.prog w = .ok (.slice (some ⟨w.heap.size, 0, none⟩) len len) w1 ∧
    Below w.heap.size w w1 ∧ RowIs w1 w.heap.size C 45 ∧ C.size = len * 3 := by
  obtain ⟨i, h1, h2⟩ := Option.map_eq_some_iff.1 info_RecoverEvent
  simp only [Prod.mk.injEq] at h2
  obtain ⟨hz, hsz, hby⟩ := h2
  have hr := run_make (P := Try.prog) w 29 45 i _ Try.underlying29 h1 hz .i64 .i64 (len : Int) (len : Int) (by omega) (by omega) (by rw [hby]; omega) (by omega)
  rw [Int.toNat_natCast, hsz] at hr
  exact ⟨_, _, hr, bAl (Below.refl _ _) _, RowIs.new _ _ _, size_madeCells _ _⟩
def FilledRecoverEvent (C : Array Value) (l : List RecoverEventT) (k : Nat) : Prop := ∀ i (h : i < l.length), i < k → C[i * 3]? = some (.int .i64 l[i].f0) ∧ C[i * 3 + 1]? = some (.int .i64 l[i].f1) ∧ C[i * 3 + 2]? = some (.string l[i].f2)
def setRecoverEvent (C : Array Value) (k : Nat) (x : RecoverEventT) : Array Value := (((C.setIfInBounds (k * 3) (.int .i64 x.f0)).setIfInBounds (k * 3 + 1) (.int .i64 x.f1)).setIfInBounds (k * 3 + 2) (.string x.f2))
theorem size_setRecoverEvent (C : Array Value) (k : Nat) (x : RecoverEventT) : (setRecoverEvent C k x).size = C.size := by simp [setRecoverEvent]
theorem FilledRecoverEvent.set {C : Array Value} {l : List RecoverEventT} {k : Nat} (h : FilledRecoverEvent C l k) (hk : k < l.length) (hC : C.size = l.length * 3) : FilledRecoverEvent (setRecoverEvent C k l[k]) l (k + 1) := by
  intro i hi hik
  unfold setRecoverEvent
  by_cases e : i = k
  · subst e
    have s0 : i * 3 < C.size := by omega
    have s1 : i * 3 + 1 < C.size := by omega
    have s2 : i * 3 + 2 < C.size := by omega
    simp [s0, s1, s2]
  · have := h i hi (by omega)
    simp only [Array.getElem?_setIfInBounds]
    repeat rw [if_neg (by omega)]
    exact this
theorem FilledRecoverEvent.row {w : World} {b : Nat} {C : Array Value} {T : TypeId} {l : List RecoverEventT} (h : FilledRecoverEvent C l l.length) (hr : RowIs w b C T) : RecoverEventRow w b 0 l :=
  ⟨hr.lt, fun i hi => by rw [Nat.zero_add, hr.cell]; exact (h i hi hi).1, fun i hi => by rw [Nat.zero_add, hr.cell]; exact (h i hi hi).2.1, fun i hi => by rw [Nat.zero_add, hr.cell]; exact (h i hi hi).2.2⟩
set_option maxRecDepth 100000 in
set_option maxHeartbeats 1000000 in
theorem toRecoverEventS_own (a : Option Addr) (len cap : Nat) (l : List RecoverEventT) (w : World) (hl : len ≤ 1048576) (hs : SlRecoverEvent w a len l) :
    Calls Try.prog 8 #[.slice a len cap] w fun e w' => e = .returned (.slice (some ⟨w.heap.size, 0, none⟩) len len) ∧ (∃ C, RowIs w' w.heap.size C 45 ∧ C.size = len * 3 ∧ RecoverEventRow w' w.heap.size 0 l) ∧ Below w.heap.size w w' := by
  obtain ⟨w1, C1, hrun, hb1, hr1, hC1⟩ := make_RecoverEvent len w hl
  have HS := hide hs
  have HB1 := hide hb1
  have HR1 := hide hr1
  clear hs hb1 hr1
  go_enter Try.func8, Try.ntmps8
  go_wp2
  clear hrun
  go_loopw [4] (fun i w' => ∃ (k : Nat) (C : Array Value), k ≤ len ∧ i = .int .i64 k ∧ Hid (Below w.heap.size w w') ∧ Hid (RowIs w' w.heap.size C 45) ∧ Hid (C.size = len * 3) ∧ Hid (FilledRecoverEvent C l k)) (fun i _ => len - (Go.RowKit.intOf i).toNat)
  case atStart => exact ⟨0, C1, Nat.zero_le _, rfl, HB1, HR1, hide hC1, hide (fun i _ h => absurd h (Nat.not_lt_zero _))⟩
  case round =>
    obtain ⟨k, C, hk, rfl, hb, hr, hC, hF⟩ := hrel
    by_cases hlt : k < len
    · obtain ⟨b, off, rfl, hrow⟩ := ((unhide HS).keep (unhide hb)).at hlt
      have hk' : k < l.length := by rw [← (unhide HS).1]; exact hlt
      have c0 := hrow.c0 k hk'
      have c1 := hrow.c1 k hk'
      have c2 := hrow.c2 k hk'
      have hF' := hide ((unhide hF).set hk' (by rw [unhide hC, (unhide HS).1]))
      clear hrow hC1
      generalize l[k] = A at c0 c1 c2 hF'
      go_wp2_with fail
      refine (toRecoverEvent_any A.f0 A.f1 A.f2 _).mono ?_
      rintro e w2 ⟨rfl, hb2⟩
      replace hr := hide ((unhide hr).keep hb2)
      replace hb := hide (bTr (unhide hb) hb2)
      have s9 : k * 3 + 2 < C.size := by rw [unhide hC]; omega
      obtain ⟨D0, d0⟩ : ∃ D, C[k * 3]? = some D := ⟨_, Array.getElem?_eq_getElem (by omega)⟩
      have g0 := (unhide hr).at d0
      have y0 := (unhide hr).froz (k * 3)
      clear d0
      obtain ⟨D1, d1⟩ : ∃ D, C[k * 3 + 1]? = some D := ⟨_, Array.getElem?_eq_getElem (by omega)⟩
      have g1 := (unhide hr).at d1
      have y1 := (unhide hr).froz (k * 3 + 1)
      clear d1
      obtain ⟨D2, d2⟩ : ∃ D, C[k * 3 + 2]? = some D := ⟨_, Array.getElem?_eq_getElem (by omega)⟩
      have g2 := (unhide hr).at d2
      have y2 := (unhide hr).froz (k * 3 + 2)
      clear d2
      clear c0 c1 c2 hb2
      go_wp2_with fail
      refine ⟨⟨k + 1, setRecoverEvent C k A, by omega, by go_num, hide ?_, hide ?_, hide (by rw [size_setRecoverEvent]; exact unhide hC), hF'⟩, by simp [Go.RowKit.intOf]; omega⟩
      · repeat refine bStRecoverEvent ?_ _ _ (Nat.le_refl _) _
        exact unhide hb
      · exact (((unhide hr).set _ _).set _ _).set _ _
    · go_wp2_with fail
      go_ret
      have e : k = l.length := by rw [← (unhide HS).1]; omega
      exact ⟨rfl, ⟨C, unhide hr, unhide hC, FilledRecoverEvent.row (by rw [← e]; exact unhide hF) (unhide hr)⟩, unhide hb⟩
set_option maxHeartbeats 1000000 in
theorem eqRecoverEventS_same (a1 a2 : Option Addr) (len1 c1 len2 c2 : Nat) (l : List RecoverEventT) (w : World) (h1 : SlRecoverEvent w a1 len1 l) (h2 : SlRecoverEvent w a2 len2 l) (hm : len1 ≤ maxLen) :
    Calls Try.prog 12 #[.slice a1 len1 c1, .slice a2 len2 c2] w fun e w' => e = .returned (.bool true) ∧ Below w.heap.size w w' := by
  unfold maxLen at hm
  obtain rfl : len1 = len2 := by rw [h1.1, h2.1]
  have H1 := hide h1
  have H2 := hide h2
  clear h1 h2
  go_enter Try.func12, Try.ntmps12
  go_wp2
  go_loopw [5] (fun i w' => ∃ k : Nat, k ≤ len1 ∧ i = .int .i64 k ∧ Below w.heap.size w w') (fun i _ => len1 - (Go.RowKit.intOf i).toNat)
  case atStart => exact ⟨0, Nat.zero_le _, rfl, Below.refl _ _⟩
  case round =>
    obtain ⟨k, hk, rfl, hbel⟩ := hrel
    by_cases hlt : k < len1
    · have g1 := hide ((unhide H1).keep hbel)
      have g2 := hide ((unhide H2).keep hbel)
      have hk' : k < l.length := by rw [← (unhide H1).1]; exact hlt
      obtain ⟨b, off, rfl, r1⟩ := (unhide g1).at hlt
      obtain ⟨b', off', rfl, r2⟩ := (unhide g2).at hlt
      have p0 := r1.c0 k hk'
      have p1 := r1.c1 k hk'
      have p2 := r1.c2 k hk'
      have q0 := r2.c0 k hk'
      have q1 := r2.c1 k hk'
      have q2 := r2.c2 k hk'
      have z1 := r1.z
      have z2 := r2.z
      clear r1 r2 g1 g2
      generalize l[k] = A at p0 p1 p2 q0 q1 q2
      have ne : Nonempty (Kept wr) := ⟨⟨wr, Below.refl _ _⟩⟩
      have x0 := kept_cell z1 p0
      have x1 := kept_cell z1 p1
      have x2 := kept_cell z1 p2
      have y0 := kept_cell z2 q0
      have y1 := kept_cell z2 q1
      have y2 := kept_cell z2 q2
      have i0 : (0 : Int) ≤ (k : Int) := by omega
      have i1 : (k : Int) < (len1 : Int) := by omega
      go_wp2_with fail
      refine wp_region_kept (by kernel_rfl) (by kernel_rfl) ?_
      repeat (first
        | go_big_quiet_step ((go_at_call 25; exact kept_call (eqRecoverEvent_same _ _ _ _)))
        | quiet_step ((go_at_call 25; exact kept_call (eqRecoverEvent_same _ _ _ _))))
      refine wpQuiet_nil ?_
      rintro _ ⟨q, rfl⟩
      clear ne x0 x1 x2 y0 y1 y2
      obtain ⟨w3, hb3⟩ := q
      go_wp2_with fail
      exact ⟨⟨k + 1, by omega, by go_num, bTr hbel hb3⟩, by simp [Go.RowKit.intOf]; omega⟩
    · go_wp2_with fail
      go_ret
      exact ⟨rfl, hbel⟩
def RecoverEventsV (l : List RecoverEventT) : List Value := l.flatMap encRecoverEvent
theorem RecoverEventsV_snoc (l : List RecoverEventT) (c : RecoverEventT) : RecoverEventsV (l ++ [c]) = RecoverEventsV l ++ encRecoverEvent c := by simp [RecoverEventsV]
theorem encRecoverEvent_one (c : RecoverEventT) : ∀ x ∈ encRecoverEvent c, x.oneCell' = true := by
  intro x hx
  simp [encRecoverEvent] at hx
  rcases hx with rfl | rfl | rfl <;> rfl
theorem RecoverEventsV_get : ∀ (l : List RecoverEventT) (i : Nat) (h : i < l.length) (j : Nat) (v : Value), (encRecoverEvent l[i])[j]? = some v → (RecoverEventsV l)[i * 3 + j]? = some v
  | [], i, h, _, _, _ => absurd h (Nat.not_lt_zero _)
  | c :: l, 0, _, j, v, hv => by
    have hj := (List.getElem?_eq_some_iff.1 hv).1
    have e : RecoverEventsV (c :: l) = encRecoverEvent c ++ RecoverEventsV l := by simp [RecoverEventsV]
    rw [e, List.getElem?_append_left (by simpa using hj)]
    simpa using hv
  | c :: l, i + 1, h, j, v, hv => by
    have e : RecoverEventsV (c :: l) = encRecoverEvent c ++ RecoverEventsV l := by simp [RecoverEventsV]
    have hl : (encRecoverEvent c).length = 3 := rfl
    rw [e, List.getElem?_append_right (by rw [hl]; omega), hl, show (i + 1) * 3 + j - 3 = i * 3 + j by omega]
    exact RecoverEventsV_get l i (by simpa using h) j v (by simpa using hv)
theorem own_RecoverEvent {w : World} {base : Nat} {v : Value} {l : List RecoverEventT} (h : w.ownsRow base 45 3 v l.length (RecoverEventsV l)) : ∃ a cap, v = .slice a l.length cap ∧ SlRecoverEvent w a l.length l := by
  rcases h.2 with ⟨rfl, e⟩ | ⟨g, cap, cur, rfl, _, hh, _, _, hsz, htk⟩
  · have : l = [] := List.length_eq_zero_iff.1 e
    subst this
    exact ⟨none, 0, rfl, rfl, .inl rfl⟩
  · have hr : RowIs w g cur 45 := hh
    have hc : ∀ i (hi : i < l.length) j u, (encRecoverEvent l[i])[j]? = some u → w.cell? ⟨g, 0 + i * 3 + j, none⟩ = some u := fun i hi j u hu => by
      have hu2 := RecoverEventsV_get l i hi j u hu
      rw [← htk, List.getElem?_take] at hu2
      rw [Nat.zero_add, hr.cell, ← Array.getElem?_toList]
      split at hu2
      · exact hu2
      · cases hu2
    exact ⟨_, _, rfl, rfl, .inr ⟨g, 0, rfl, hr.lt, fun i hi => hc i hi 0 _ rfl, fun i hi => hc i hi 1 _ rfl, fun i hi => hc i hi 2 _ rfl⟩⟩
theorem eqOwnRecoverEvent {w : World} {b1 b2 : Nat} {v1 v2 : Value} {l : List RecoverEventT} (h1 : w.ownsRow b1 45 3 v1 l.length (RecoverEventsV l)) (h2 : w.ownsRow b2 45 3 v2 l.length (RecoverEventsV l)) (hl : l.length ≤ 1000000) :
    Calls Try.prog 12 #[v1, v2] w fun e w' => e = .returned (.bool true) ∧ Below w.heap.size w w' := by
  obtain ⟨a1, c1, rfl, s1⟩ := own_RecoverEvent h1
  obtain ⟨a2, c2, rfl, s2⟩ := own_RecoverEvent h2
  exact eqRecoverEventS_same a1 a2 l.length c1 l.length c2 l w s1 s2 (by unfold maxLen; omega)
theorem listnRecoverEvent {α : Type} {l : List α} (h : l.length = 3) : ∃ a0 a1 a2, l = [a0, a1, a2] := by
  match l, h with
  | [a0, a1, a2], _ => exact ⟨a0, a1, a2, rfl⟩
section
variable {H : Type} {enc : TypeId × Value → H} {w : World} {base : Nat} {sp : Nat → Bool} {held : Bool}
theorem addr_RecoverEvent (b off k : Nat) : (⟨b, off, none⟩ : Addr).add k = ⟨b, off + k, none⟩ := by
  unfold Addr.add; split <;> simp_all
set_option maxRecDepth 100000 in
theorem read_RecoverEvent {n : Nat} {cs : List Value} {x : DataW H × List MemPlace} (h : DataW.trod enc Try.prog w base sp held n 39 cs = some x) : ∃ A : RecoverEventT, cs = [.int .i64 A.f0, .int .i64 A.f1, .string A.f2] ∧ A.Ok := by
  obtain ⟨xs, m, rfl, _, hlen, hx, hf⟩ := DataW.trod_struct Try.underlying39 h
  have hc : Try.prog.cellsOf 39 = 3 := by kernel_rfl
  have k9 : Try.prog.cellsOf 9 = 1 := by kernel_rfl
  have k3 : Try.prog.cellsOf 3 = 1 := by kernel_rfl
  have k4 : Try.prog.cellsOf 4 = 1 := by kernel_rfl
  obtain ⟨c0, c1, c2, rfl⟩ := listnRecoverEvent (hlen.trans hc)
  obtain ⟨x0, x1, x2, rfl⟩ := listnRecoverEvent hx
  have h0 : DataW.trod enc Try.prog w base sp held m 3 [c0] = some x0 := by have := hf 0 _ rfl; simpa [k9, k3, k4] using this
  obtain ⟨y0, e0, _, ok0⟩ := DataW.trod_int Try.underlying3 h0
  have h1 : DataW.trod enc Try.prog w base sp held m 3 [c1] = some x1 := by have := hf 1 _ rfl; simpa [k9, k3, k4] using this
  obtain ⟨y1, e1, _, ok1⟩ := DataW.trod_int Try.underlying3 h1
  have h2 : DataW.trod enc Try.prog w base sp held m 9 [c2] = some x2 := by have := hf 2 _ rfl; simpa [k9, k3, k4] using this
  obtain ⟨y2, e2, _, ok2⟩ := DataW.trod_string Try.underlying9 h2
  simp at e0 e1 e2
  subst e0 e1 e2
  exact ⟨⟨y0, y1, y2⟩, rfl, ok0, ok1, ok2⟩
set_option maxRecDepth 100000 in
theorem reads_RecoverEvent {n len cap : Nat} {a : Option Addr} {x : DataW H × List MemPlace} (h : DataW.trod enc Try.prog w base sp held n 23 [.slice a len cap] = some x) :
    ∃ l : List RecoverEventT, SlRecoverEvent w a len l ∧ (∀ q ∈ l, RecoverEventT.Ok q) ∧ len ≤ maxLen := by
  have hc : Try.prog.cellsOf 39 = 3 := by kernel_rfl
  rcases Go.Deep.open_slice Try.underlying23 h with ⟨hcs, _⟩ | ⟨a', len', cap', m, n', D, Pl, hcs, _, hl, hm, hmm, _, hel⟩
  · simp at hcs
    obtain ⟨rfl, rfl, rfl⟩ := hcs
    exact ⟨[], ⟨rfl, .inl rfl⟩, by simp, Nat.zero_le _⟩
  · simp at hcs
    obtain ⟨rfl, rfl, rfl⟩ := hcs
    have hlm : len ≤ m := by rw [hmm]; split <;> omega
    by_cases h0 : len = 0
    · subst h0; exact ⟨[], ⟨rfl, .inl rfl⟩, by simp, Nat.zero_le _⟩
    have hspot : a'.spot = none := by
      obtain ⟨cs', h1, h2⟩ := hel 0 (by omega)
      rw [hc] at h1
      obtain ⟨A, rfl, _⟩ := read_RecoverEvent h2
      have e0 := (World.cells?_some h1).2.2 0 (by omega)
      simp [Addr.add] at e0
      exact World.cell?_spot e0
    obtain ⟨b, off, spot⟩ := a'
    simp only at hspot
    subst hspot
    have hA : ∀ i, i < len → ∃ A : RecoverEventT, A.Ok ∧ (w.cell? ⟨b, off + i * 3, none⟩ = some (.int .i64 A.f0) ∧ w.cell? ⟨b, off + i * 3 + 1, none⟩ = some (.int .i64 A.f1) ∧ w.cell? ⟨b, off + i * 3 + 2, none⟩ = some (.string A.f2)) ∧ b < w.heap.size := by
      intro i hi
      obtain ⟨cs', h1, h2⟩ := hel i (by omega)
      rw [hc, addr_RecoverEvent] at h1
      obtain ⟨A, rfl, hok⟩ := read_RecoverEvent h2
      have h3 := (World.cells?_some h1).2.2
      have e0 := h3 0 (by omega)
      have e1 := h3 1 (by omega)
      have e2 := h3 2 (by omega)
      rw [addr_RecoverEvent] at e0 e1 e2
      exact ⟨A, hok, ⟨e0, e1, e2⟩, World.block_lt_of_cell? w ⟨b, off + i * 3 + 0, none⟩ e0⟩
    obtain ⟨f, hf⟩ := @Go.Deep.choose_lt RecoverEventT ⟨⟨0, 0, ⟨#[]⟩⟩⟩ len (fun i A => A.Ok ∧ (w.cell? ⟨b, off + i * 3, none⟩ = some (.int .i64 A.f0) ∧ w.cell? ⟨b, off + i * 3 + 1, none⟩ = some (.int .i64 A.f1) ∧ w.cell? ⟨b, off + i * 3 + 2, none⟩ = some (.string A.f2)) ∧ b < w.heap.size) hA
    refine ⟨(List.range len).map f, ⟨by simp, .inr ⟨b, off, rfl, (hf 0 (by omega)).2.2, fun i hi => ?_, fun i hi => ?_, fun i hi => ?_⟩⟩, ?_, by omega⟩
    · simp at hi
      have := (hf i hi).2.1.1
      simpa using this
    · simp at hi
      have := (hf i hi).2.1.2.1
      simpa using this
    · simp at hi
      have := (hf i hi).2.1.2.2
      simpa using this
    · intro q hq
      simp at hq
      obtain ⟨i, hi, rfl⟩ := hq
      exact (hf i hi).1
set_option maxRecDepth 100000 in
/-- A slice that came in. -/
theorem read_RecoverEvents {r : Reach} {b0 : Nat} {v0 : Value} {d : DataW H} {p : List MemPlace} (hv : Value.okWide Try.prog w r b0 23 v0) (h : DataW.Trod enc Try.prog w base sp held 23 v0 d p) :
    ∃ (l : List RecoverEventT) (a : Option Addr) (len cap : Nat), v0 = .slice a len cap ∧ SlRecoverEvent w a len l ∧ (∀ q ∈ l, RecoverEventT.Ok q) ∧ len ≤ maxLen := by
  obtain ⟨fuel, hf0⟩ := h
  obtain ⟨a, len, cap, rfl⟩ := okWide_slice Try.underlying23 hv
  obtain ⟨l, h1, h2, h3⟩ := reads_RecoverEvent hf0
  exact ⟨l, a, len, cap, rfl, h1, h2, h3⟩
end
end Go.Proofs.Ytoikjamafglilaa
