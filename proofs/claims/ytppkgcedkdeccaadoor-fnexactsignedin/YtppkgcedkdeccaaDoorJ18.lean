/- LYe, LYr, LSa, one behind the other. -/
import Derived.Test.YtppkgcedkdeccaaDoorJ17
import Derived.ProofKit
import Derived.Deep.Slices
import Derived.Laws.MakeOwn
import Derived.OwnWalk
import Derived.Test.YtppkgcedkdeccaaDoorJ13
import Derived.Test.YtppkgcedkdeccaaDoorJ14
/- Slices of impl.SessEvent: in memory, read, sized, copied, held against each other. -/
namespace Go.Proofs.YtppkgcedkdeccaaDoor
open Go.ChangeShapes Go.WideShapes Go.RowKit

structure SessEventT where
  f0 : Int
  f1 : Int
  f2 : ByteArray
  f3 : ByteArray
  f4 : ByteArray
structure SessEventT.Ok (x : SessEventT) : Prop where
  o0 : (Lit.int .i64 x.f0).wf = true
  o1 : (Lit.int .i64 x.f1).wf = true
  o2 : x.f2.size ≤ maxLen
  o3 : x.f3.size ≤ maxLen
  o4 : x.f4.size ≤ maxLen
def encSessEvent (x : SessEventT) : List Value := [.int .i64 x.f0, .int .i64 x.f1, .string x.f2, .string x.f3, .string x.f4]
structure SessEventRow (w : World) (b off : Nat) (l : List SessEventT) : Prop where
  z : b < w.heap.size
  c0 : ∀ i (h : i < l.length), w.cell? ⟨b, off + i * 5, none⟩ = some (.int .i64 l[i].f0)
  c1 : ∀ i (h : i < l.length), w.cell? ⟨b, off + i * 5 + 1, none⟩ = some (.int .i64 l[i].f1)
  c2 : ∀ i (h : i < l.length), w.cell? ⟨b, off + i * 5 + 2, none⟩ = some (.string l[i].f2)
  c3 : ∀ i (h : i < l.length), w.cell? ⟨b, off + i * 5 + 3, none⟩ = some (.string l[i].f3)
  c4 : ∀ i (h : i < l.length), w.cell? ⟨b, off + i * 5 + 4, none⟩ = some (.string l[i].f4)
theorem SessEventRow.keep {w w1 : World} {b off : Nat} {l : List SessEventT} (h : SessEventRow w b off l) (hb : Below w.heap.size w w1) : SessEventRow w1 b off l :=
  ⟨Nat.lt_of_lt_of_le h.z hb.size, fun i hi => cellB hb h.z (h.c0 i hi), fun i hi => cellB hb h.z (h.c1 i hi), fun i hi => cellB hb h.z (h.c2 i hi), fun i hi => cellB hb h.z (h.c3 i hi), fun i hi => cellB hb h.z (h.c4 i hi)⟩
def SlSessEvent (w : World) (a : Option Addr) (len : Nat) (l : List SessEventT) : Prop := len = l.length ∧ (l = [] ∨ ∃ b off, a = some ⟨b, off, none⟩ ∧ SessEventRow w b off l)
theorem SlSessEvent.keep {w w1 : World} {a : Option Addr} {len : Nat} {l : List SessEventT} (h : SlSessEvent w a len l) (hb : Below w.heap.size w w1) : SlSessEvent w1 a len l :=
  ⟨h.1, by
    rcases h.2 with e | ⟨b, off, e, r⟩
    · exact .inl e
    · exact .inr ⟨b, off, e, r.keep hb⟩⟩
theorem SlSessEvent.at {w : World} {a : Option Addr} {len : Nat} {l : List SessEventT} (h : SlSessEvent w a len l) {k : Nat} (hk : k < len) : ∃ b off, a = some ⟨b, off, none⟩ ∧ SessEventRow w b off l := by
  rcases h.2 with e | e
  · rw [h.1, e] at hk; simp at hk
  · exact e
theorem bStSessEvent {w w' : World} (h : Below w.heap.size w w') (b o : Nat) (hb : w.heap.size ≤ b) (v : Value) : Below w.heap.size w (w'.setCell ⟨b, o, none⟩ v) := h.setCell hb v
set_option maxHeartbeats 400000 in
theorem toSessEvent_any (f0 : Int) (f1 : Int) (f2 : ByteArray) (f3 : ByteArray) (f4 : ByteArray) (w : World) :
    Calls Tryd.prog 37 #[.agg #[.int .i64 f0, .int .i64 f1, .string f2, .string f3, .string f4]] w fun e w' => e = .returned (.agg #[.int .i64 f0, .int .i64 f1, .string f2, .string f3, .string f4]) ∧ Below w.heap.size w w' := by
  go_enter Tryd.func37, Tryd.ntmps37
  go_wp2
  exact bodyPost_ret (v := .agg #[.int .i64 f0, .int .i64 f1, .string f2, .string f3, .string f4]) (by simp [results, Tryd.results37, go_sem]) rfl ⟨rfl, bAl (bAl (bAl (Below.refl _ _) _) _) _⟩
set_option maxHeartbeats 400000 in
theorem eqSessEvent_same (f0 : Int) (f1 : Int) (f2 : ByteArray) (f3 : ByteArray) (f4 : ByteArray) (w : World) :
    Calls Tryd.prog 40 #[.agg #[.int .i64 f0, .int .i64 f1, .string f2, .string f3, .string f4], .agg #[.int .i64 f0, .int .i64 f1, .string f2, .string f3, .string f4]] w fun e w' => e = .returned (.bool true) ∧ Below w.heap.size w w' := by
  go_enter Tryd.func40, Tryd.ntmps40
  go_wp2
  go_ret
  exact ⟨rfl, bAl (bAl (Below.refl _ _) _) _⟩
set_option maxHeartbeats 400000 in
theorem szSessEvent_any (f0 : Int) (f1 : Int) (f2 : ByteArray) (f3 : ByteArray) (f4 : ByteArray) (l : Int) (w : World) (h0 : 0 ≤ l) (h1 : l ≤ 1048576) (s2 : f2.size ≤ maxLen) (s3 : f3.size ≤ maxLen) (s4 : f4.size ≤ maxLen) :
    Calls Tryd.prog 35 #[.agg #[.int .i64 f0, .int .i64 f1, .string f2, .string f3, .string f4], .int .i64 l] w fun e w' => (∃ m : Int, -1 ≤ m ∧ m ≤ l ∧ e = .returned (.int .i64 m)) ∧ Below w.heap.size w w' := by
  unfold maxLen at s2 s3 s4
  go_enter Tryd.func35, Tryd.ntmps35
  go_wp2
  all_goals go_ret
  all_goals exact ⟨⟨_, by omega, by omega, rfl⟩, bAl (Below.refl _ _) _⟩
set_option maxHeartbeats 400000 in
theorem szSessEventS_any (a : Option Addr) (len cap : Nat) (l : List SessEventT) (left : Int) (w : World) (h0 : 0 ≤ left) (h1 : left ≤ 1048576) (hl : len ≤ maxLen) (hs : SlSessEvent w a len l) (hok : ∀ q ∈ l, SessEventT.Ok q) :
    Calls Tryd.prog 12 #[.slice a len cap, .int .i64 left] w fun e w' => (∃ m : Int, -1 ≤ m ∧ m ≤ left ∧ (0 ≤ m → (len : Int) ≤ left) ∧ e = .returned (.int .i64 m)) ∧ Below w.heap.size w w' := by
  unfold maxLen at hl
  by_cases hlen : left < (len : Int)
  · clear hs hok
    go_enter Tryd.func12, Tryd.ntmps12
    go_wp2
    go_ret
    exact ⟨⟨-1, by omega, by omega, by omega, rfl⟩, Below.refl _ _⟩
  have d1 : decide (left - (len : Int) < 0) = false := by simp; omega
  have HS := hide hs
  clear hs
  go_enter Tryd.func12, Tryd.ntmps12
  go_wp2
  go_loopw [1, 5] (fun m i w' => ∃ (k : Nat) (q : Int), k ≤ len ∧ 0 ≤ q ∧ q ≤ left ∧ i = .int .i64 k ∧ m = .int .i64 q ∧ Below w.heap.size w w') (fun _ i _ => len - (Go.RowKit.intOf i).toNat)
  case atStart => exact ⟨0, _, Nat.zero_le _, by omega, by omega, rfl, rfl, Below.refl _ _⟩
  case round =>
    obtain ⟨k, q, hk, hq1, hq2, rfl, rfl, hbel⟩ := hrel
    by_cases hlt : k < len
    · obtain ⟨b, off, rfl, hrow⟩ := ((unhide HS).keep hbel).at hlt
      have hk' : k < l.length := by rw [← (unhide HS).1]; exact hlt
      have c0 := hrow.c0 k hk'
      have c1 := hrow.c1 k hk'
      have c2 := hrow.c2 k hk'
      have c3 := hrow.c3 k hk'
      have c4 := hrow.c4 k hk'
      have ho := hok _ (List.getElem_mem hk')
      have hz := hide (fun q w h0 h1 => szSessEvent_any (l[k]).f0 (l[k]).f1 (l[k]).f2 (l[k]).f3 (l[k]).f4 q w h0 h1 ho.o2 ho.o3 ho.o4)
      clear hrow ho hok
      generalize l[k] = A at hz c0 c1 c2 c3 c4
      go_wp2_with fail
      refine (unhide hz _ _ (by omega) (by omega)).mono ?_
      rintro e w1 ⟨⟨m, hm1, hm2, rfl⟩, hb1⟩
      by_cases hm : m < 0
      · go_wp2_with fail
        go_ret
        exact ⟨⟨-1, by omega, by omega, by omega, rfl⟩, bTr hbel hb1⟩
      · go_wp2_with fail
        exact ⟨⟨k + 1, m, by omega, by omega, by omega, by go_num, rfl, bTr hbel hb1⟩, by simp [Go.RowKit.intOf]; omega⟩
    · go_wp2_with fail
      go_ret
      exact ⟨⟨q, by omega, by omega, by omega, rfl⟩, hbel⟩
theorem info_SessEvent : (Tryd.prog.info? 34).map (fun i => (i.zero, i.size, i.bytes)) = some (some (.agg #[.int .i64 0, .int .i64 0, .string ByteArray.empty, .string ByteArray.empty, .string ByteArray.empty]), 5, 64) := by kernel_rfl
theorem make_SessEvent (len : Nat) (w : World) (h : len ≤ 1048576) : ∃ w1 C, (Instr.makeSlice 25 (.int .i64 (len : Int)) (.int .i64 (len : Int))).run Tryd.prog w = .ok (.slice (some ⟨w.heap.size, 0, none⟩) len len) w1 ∧
    Below w.heap.size w w1 ∧ RowIs w1 w.heap.size C 34 ∧ C.size = len * 5 := by
  obtain ⟨i, h1, h2⟩ := Option.map_eq_some_iff.1 info_SessEvent
  simp only [Prod.mk.injEq] at h2
  obtain ⟨hz, hsz, hby⟩ := h2
  have hr := run_make (P := Tryd.prog) w 25 34 i _ Tryd.underlying25 h1 hz .i64 .i64 (len : Int) (len : Int) (by omega) (by omega) (by rw [hby]; omega) (by omega)
  rw [Int.toNat_natCast, hsz] at hr
  exact ⟨_, _, hr, bAl (Below.refl _ _) _, RowIs.new _ _ _, size_madeCells _ _⟩
def FilledSessEvent (C : Array Value) (l : List SessEventT) (k : Nat) : Prop := ∀ i (h : i < l.length), i < k → C[i * 5]? = some (.int .i64 l[i].f0) ∧ C[i * 5 + 1]? = some (.int .i64 l[i].f1) ∧ C[i * 5 + 2]? = some (.string l[i].f2) ∧ C[i * 5 + 3]? = some (.string l[i].f3) ∧ C[i * 5 + 4]? = some (.string l[i].f4)
def setSessEvent (C : Array Value) (k : Nat) (x : SessEventT) : Array Value := (((((C.setIfInBounds (k * 5) (.int .i64 x.f0)).setIfInBounds (k * 5 + 1) (.int .i64 x.f1)).setIfInBounds (k * 5 + 2) (.string x.f2)).setIfInBounds (k * 5 + 3) (.string x.f3)).setIfInBounds (k * 5 + 4) (.string x.f4))
theorem size_setSessEvent (C : Array Value) (k : Nat) (x : SessEventT) : (setSessEvent C k x).size = C.size := by simp [setSessEvent]
theorem FilledSessEvent.set {C : Array Value} {l : List SessEventT} {k : Nat} (h : FilledSessEvent C l k) (hk : k < l.length) (hC : C.size = l.length * 5) : FilledSessEvent (setSessEvent C k l[k]) l (k + 1) := by
  intro i hi hik
  unfold setSessEvent
  by_cases e : i = k
  · subst e
    have s0 : i * 5 < C.size := by omega
    have s1 : i * 5 + 1 < C.size := by omega
    have s2 : i * 5 + 2 < C.size := by omega
    have s3 : i * 5 + 3 < C.size := by omega
    have s4 : i * 5 + 4 < C.size := by omega
    simp [s0, s1, s2, s3, s4]
  · have := h i hi (by omega)
    simp only [Array.getElem?_setIfInBounds]
    repeat rw [if_neg (by omega)]
    exact this
theorem FilledSessEvent.row {w : World} {b : Nat} {C : Array Value} {T : TypeId} {l : List SessEventT} (h : FilledSessEvent C l l.length) (hr : RowIs w b C T) : SessEventRow w b 0 l :=
  ⟨hr.lt, fun i hi => by rw [Nat.zero_add, hr.cell]; exact (h i hi hi).1, fun i hi => by rw [Nat.zero_add, hr.cell]; exact (h i hi hi).2.1, fun i hi => by rw [Nat.zero_add, hr.cell]; exact (h i hi hi).2.2.1, fun i hi => by rw [Nat.zero_add, hr.cell]; exact (h i hi hi).2.2.2.1, fun i hi => by rw [Nat.zero_add, hr.cell]; exact (h i hi hi).2.2.2.2⟩
set_option maxRecDepth 100000 in
set_option maxHeartbeats 1000000 in
theorem toSessEventS_own (a : Option Addr) (len cap : Nat) (l : List SessEventT) (w : World) (hl : len ≤ 1048576) (hs : SlSessEvent w a len l) :
    Calls Tryd.prog 14 #[.slice a len cap] w fun e w' => e = .returned (.slice (some ⟨w.heap.size, 0, none⟩) len len) ∧ (∃ C, RowIs w' w.heap.size C 34 ∧ C.size = len * 5 ∧ SessEventRow w' w.heap.size 0 l) ∧ Below w.heap.size w w' := by
  obtain ⟨w1, C1, hrun, hb1, hr1, hC1⟩ := make_SessEvent len w hl
  have HS := hide hs
  have HB1 := hide hb1
  have HR1 := hide hr1
  clear hs hb1 hr1
  go_enter Tryd.func14, Tryd.ntmps14
  go_wp2
  clear hrun
  go_loopw [4] (fun i w' => ∃ (k : Nat) (C : Array Value), k ≤ len ∧ i = .int .i64 k ∧ Hid (Below w.heap.size w w') ∧ Hid (RowIs w' w.heap.size C 34) ∧ Hid (C.size = len * 5) ∧ Hid (FilledSessEvent C l k)) (fun i _ => len - (Go.RowKit.intOf i).toNat)
  case atStart => exact ⟨0, C1, Nat.zero_le _, rfl, HB1, HR1, hide hC1, hide (fun i _ h => absurd h (Nat.not_lt_zero _))⟩
  case round =>
    obtain ⟨k, C, hk, rfl, hb, hr, hC, hF⟩ := hrel
    by_cases hlt : k < len
    · obtain ⟨b, off, rfl, hrow⟩ := ((unhide HS).keep (unhide hb)).at hlt
      have hk' : k < l.length := by rw [← (unhide HS).1]; exact hlt
      have c0 := hrow.c0 k hk'
      have c1 := hrow.c1 k hk'
      have c2 := hrow.c2 k hk'
      have c3 := hrow.c3 k hk'
      have c4 := hrow.c4 k hk'
      have hF' := hide ((unhide hF).set hk' (by rw [unhide hC, (unhide HS).1]))
      clear hrow hC1
      generalize l[k] = A at c0 c1 c2 c3 c4 hF'
      go_wp2_with fail
      refine (toSessEvent_any A.f0 A.f1 A.f2 A.f3 A.f4 _).mono ?_
      rintro e w2 ⟨rfl, hb2⟩
      replace hr := hide ((unhide hr).keep hb2)
      replace hb := hide (bTr (unhide hb) hb2)
      have s9 : k * 5 + 4 < C.size := by rw [unhide hC]; omega
      obtain ⟨D0, d0⟩ : ∃ D, C[k * 5]? = some D := ⟨_, Array.getElem?_eq_getElem (by omega)⟩
      have g0 := (unhide hr).at d0
      have y0 := (unhide hr).froz (k * 5)
      clear d0
      obtain ⟨D1, d1⟩ : ∃ D, C[k * 5 + 1]? = some D := ⟨_, Array.getElem?_eq_getElem (by omega)⟩
      have g1 := (unhide hr).at d1
      have y1 := (unhide hr).froz (k * 5 + 1)
      clear d1
      obtain ⟨D2, d2⟩ : ∃ D, C[k * 5 + 2]? = some D := ⟨_, Array.getElem?_eq_getElem (by omega)⟩
      have g2 := (unhide hr).at d2
      have y2 := (unhide hr).froz (k * 5 + 2)
      clear d2
      obtain ⟨D3, d3⟩ : ∃ D, C[k * 5 + 3]? = some D := ⟨_, Array.getElem?_eq_getElem (by omega)⟩
      have g3 := (unhide hr).at d3
      have y3 := (unhide hr).froz (k * 5 + 3)
      clear d3
      obtain ⟨D4, d4⟩ : ∃ D, C[k * 5 + 4]? = some D := ⟨_, Array.getElem?_eq_getElem (by omega)⟩
      have g4 := (unhide hr).at d4
      have y4 := (unhide hr).froz (k * 5 + 4)
      clear d4
      clear c0 c1 c2 c3 c4 hb2
      go_wp2_with fail
      refine ⟨⟨k + 1, setSessEvent C k A, by omega, by go_num, hide ?_, hide ?_, hide (by rw [size_setSessEvent]; exact unhide hC), hF'⟩, by simp [Go.RowKit.intOf]; omega⟩
      · repeat refine bStSessEvent ?_ _ _ (Nat.le_refl _) _
        exact unhide hb
      · exact (((((unhide hr).set _ _).set _ _).set _ _).set _ _).set _ _
    · go_wp2_with fail
      go_ret
      have e : k = l.length := by rw [← (unhide HS).1]; omega
      exact ⟨rfl, ⟨C, unhide hr, unhide hC, FilledSessEvent.row (by rw [← e]; exact unhide hF) (unhide hr)⟩, unhide hb⟩
set_option maxHeartbeats 1000000 in
theorem eqSessEventS_same (a1 a2 : Option Addr) (len1 c1 len2 c2 : Nat) (l : List SessEventT) (w : World) (h1 : SlSessEvent w a1 len1 l) (h2 : SlSessEvent w a2 len2 l) (hm : len1 ≤ maxLen) :
    Calls Tryd.prog 17 #[.slice a1 len1 c1, .slice a2 len2 c2] w fun e w' => e = .returned (.bool true) ∧ Below w.heap.size w w' := by
  unfold maxLen at hm
  obtain rfl : len1 = len2 := by rw [h1.1, h2.1]
  have H1 := hide h1
  have H2 := hide h2
  clear h1 h2
  go_enter Tryd.func17, Tryd.ntmps17
  go_wp2
  go_loopw [5] (fun i w' => ∃ k : Nat, k ≤ len1 ∧ i = .int .i64 k ∧ Below w.heap.size w w') (fun i _ => len1 - (Go.RowKit.intOf i).toNat)
  case atStart => exact ⟨0, Nat.zero_le _, rfl, Below.refl _ _⟩
  case round =>
    obtain ⟨k, hk, rfl, hbel⟩ := hrel
    by_cases hlt : k < len1
    · have g1 := hide ((unhide H1).keep hbel)
      have g2 := hide ((unhide H2).keep hbel)
      have hk' : k < l.length := by rw [← (unhide H1).1]; exact hlt
      obtain ⟨b, off, rfl, r1⟩ := (unhide g1).at hlt
      obtain ⟨b', off', rfl, r2⟩ := (unhide g2).at hlt
      have p0 := r1.c0 k hk'
      have p1 := r1.c1 k hk'
      have p2 := r1.c2 k hk'
      have p3 := r1.c3 k hk'
      have p4 := r1.c4 k hk'
      have q0 := r2.c0 k hk'
      have q1 := r2.c1 k hk'
      have q2 := r2.c2 k hk'
      have q3 := r2.c3 k hk'
      have q4 := r2.c4 k hk'
      have z1 := r1.z
      have z2 := r2.z
      clear r1 r2 g1 g2
      generalize l[k] = A at p0 p1 p2 p3 p4 q0 q1 q2 q3 q4
      have ne : Nonempty (Kept wr) := ⟨⟨wr, Below.refl _ _⟩⟩
      have x0 := kept_cell z1 p0
      have x1 := kept_cell z1 p1
      have x2 := kept_cell z1 p2
      have x3 := kept_cell z1 p3
      have x4 := kept_cell z1 p4
      have y0 := kept_cell z2 q0
      have y1 := kept_cell z2 q1
      have y2 := kept_cell z2 q2
      have y3 := kept_cell z2 q3
      have y4 := kept_cell z2 q4
      have i0 : (0 : Int) ≤ (k : Int) := by omega
      have i1 : (k : Int) < (len1 : Int) := by omega
      go_wp2_with fail
      refine wp_region_kept (by kernel_rfl) (by kernel_rfl) ?_
      repeat (first
        | go_big_quiet_step ((go_at_call 40; exact kept_call (eqSessEvent_same _ _ _ _ _ _)))
        | quiet_step ((go_at_call 40; exact kept_call (eqSessEvent_same _ _ _ _ _ _))))
      refine wpQuiet_nil ?_
      rintro _ ⟨q, rfl⟩
      clear ne x0 x1 x2 x3 x4 y0 y1 y2 y3 y4
      obtain ⟨w3, hb3⟩ := q
      go_wp2_with fail
      exact ⟨⟨k + 1, by omega, by go_num, bTr hbel hb3⟩, by simp [Go.RowKit.intOf]; omega⟩
    · go_wp2_with fail
      go_ret
      exact ⟨rfl, hbel⟩
def SessEventsV (l : List SessEventT) : List Value := l.flatMap encSessEvent
theorem SessEventsV_snoc (l : List SessEventT) (c : SessEventT) : SessEventsV (l ++ [c]) = SessEventsV l ++ encSessEvent c := by simp [SessEventsV]
theorem encSessEvent_one (c : SessEventT) : ∀ x ∈ encSessEvent c, x.oneCell' = true := by
  intro x hx
  simp [encSessEvent] at hx
  rcases hx with rfl | rfl | rfl | rfl | rfl <;> rfl
theorem SessEventsV_get : ∀ (l : List SessEventT) (i : Nat) (h : i < l.length) (j : Nat) (v : Value), (encSessEvent l[i])[j]? = some v → (SessEventsV l)[i * 5 + j]? = some v
  | [], i, h, _, _, _ => absurd h (Nat.not_lt_zero _)
  | c :: l, 0, _, j, v, hv => by
    have hj := (List.getElem?_eq_some_iff.1 hv).1
    have e : SessEventsV (c :: l) = encSessEvent c ++ SessEventsV l := by simp [SessEventsV]
    rw [e, List.getElem?_append_left (by simpa using hj)]
    simpa using hv
  | c :: l, i + 1, h, j, v, hv => by
    have e : SessEventsV (c :: l) = encSessEvent c ++ SessEventsV l := by simp [SessEventsV]
    have hl : (encSessEvent c).length = 5 := rfl
    rw [e, List.getElem?_append_right (by rw [hl]; omega), hl, show (i + 1) * 5 + j - 5 = i * 5 + j by omega]
    exact SessEventsV_get l i (by simpa using h) j v (by simpa using hv)
theorem own_SessEvent {w : World} {base : Nat} {v : Value} {l : List SessEventT} (h : w.ownsRow base 34 5 v l.length (SessEventsV l)) : ∃ a cap, v = .slice a l.length cap ∧ SlSessEvent w a l.length l := by
  rcases h.2 with ⟨rfl, e⟩ | ⟨g, cap, cur, rfl, _, hh, _, _, hsz, htk⟩
  · have : l = [] := List.length_eq_zero_iff.1 e
    subst this
    exact ⟨none, 0, rfl, rfl, .inl rfl⟩
  · have hr : RowIs w g cur 34 := hh
    have hc : ∀ i (hi : i < l.length) j u, (encSessEvent l[i])[j]? = some u → w.cell? ⟨g, 0 + i * 5 + j, none⟩ = some u := fun i hi j u hu => by
      have hu2 := SessEventsV_get l i hi j u hu
      rw [← htk, List.getElem?_take] at hu2
      rw [Nat.zero_add, hr.cell, ← Array.getElem?_toList]
      split at hu2
      · exact hu2
      · cases hu2
    exact ⟨_, _, rfl, rfl, .inr ⟨g, 0, rfl, hr.lt, fun i hi => hc i hi 0 _ rfl, fun i hi => hc i hi 1 _ rfl, fun i hi => hc i hi 2 _ rfl, fun i hi => hc i hi 3 _ rfl, fun i hi => hc i hi 4 _ rfl⟩⟩
theorem eqOwnSessEvent {w : World} {b1 b2 : Nat} {v1 v2 : Value} {l : List SessEventT} (h1 : w.ownsRow b1 34 5 v1 l.length (SessEventsV l)) (h2 : w.ownsRow b2 34 5 v2 l.length (SessEventsV l)) (hl : l.length ≤ 1000000) :
    Calls Tryd.prog 17 #[v1, v2] w fun e w' => e = .returned (.bool true) ∧ Below w.heap.size w w' := by
  obtain ⟨a1, c1, rfl, s1⟩ := own_SessEvent h1
  obtain ⟨a2, c2, rfl, s2⟩ := own_SessEvent h2
  exact eqSessEventS_same a1 a2 l.length c1 l.length c2 l w s1 s2 (by unfold maxLen; omega)
theorem listnSessEvent {α : Type} {l : List α} (h : l.length = 5) : ∃ a0 a1 a2 a3 a4, l = [a0, a1, a2, a3, a4] := by
  match l, h with
  | [a0, a1, a2, a3, a4], _ => exact ⟨a0, a1, a2, a3, a4, rfl⟩
section
variable {H : Type} {enc : TypeId × Value → H} {w : World} {base : Nat} {sp : Nat → Bool} {held : Bool}
theorem addr_SessEvent (b off k : Nat) : (⟨b, off, none⟩ : Addr).add k = ⟨b, off + k, none⟩ := by
  unfold Addr.add; split <;> simp_all
set_option maxRecDepth 100000 in
theorem read_SessEvent {n : Nat} {cs : List Value} {x : DataW H × List MemPlace} (h : DataW.trod enc Tryd.prog w base sp held n 84 cs = some x) : ∃ A : SessEventT, cs = [.int .i64 A.f0, .int .i64 A.f1, .string A.f2, .string A.f3, .string A.f4] ∧ A.Ok := by
  obtain ⟨xs, m, rfl, _, hlen, hx, hf⟩ := DataW.trod_struct Tryd.underlying84 h
  have hc : Tryd.prog.cellsOf 84 = 5 := by kernel_rfl
  have k9 : Tryd.prog.cellsOf 9 = 1 := by kernel_rfl
  have k3 : Tryd.prog.cellsOf 3 = 1 := by kernel_rfl
  have k4 : Tryd.prog.cellsOf 4 = 1 := by kernel_rfl
  obtain ⟨c0, c1, c2, c3, c4, rfl⟩ := listnSessEvent (hlen.trans hc)
  obtain ⟨x0, x1, x2, x3, x4, rfl⟩ := listnSessEvent hx
  have h0 : DataW.trod enc Tryd.prog w base sp held m 3 [c0] = some x0 := by have := hf 0 _ rfl; simpa [k9, k3, k4] using this
  obtain ⟨y0, e0, _, ok0⟩ := DataW.trod_int Tryd.underlying3 h0
  have h1 : DataW.trod enc Tryd.prog w base sp held m 3 [c1] = some x1 := by have := hf 1 _ rfl; simpa [k9, k3, k4] using this
  obtain ⟨y1, e1, _, ok1⟩ := DataW.trod_int Tryd.underlying3 h1
  have h2 : DataW.trod enc Tryd.prog w base sp held m 9 [c2] = some x2 := by have := hf 2 _ rfl; simpa [k9, k3, k4] using this
  obtain ⟨y2, e2, _, ok2⟩ := DataW.trod_string Tryd.underlying9 h2
  have h3 : DataW.trod enc Tryd.prog w base sp held m 9 [c3] = some x3 := by have := hf 3 _ rfl; simpa [k9, k3, k4] using this
  obtain ⟨y3, e3, _, ok3⟩ := DataW.trod_string Tryd.underlying9 h3
  have h4 : DataW.trod enc Tryd.prog w base sp held m 9 [c4] = some x4 := by have := hf 4 _ rfl; simpa [k9, k3, k4] using this
  obtain ⟨y4, e4, _, ok4⟩ := DataW.trod_string Tryd.underlying9 h4
  simp at e0 e1 e2 e3 e4
  subst e0 e1 e2 e3 e4
  exact ⟨⟨y0, y1, y2, y3, y4⟩, rfl, ok0, ok1, ok2, ok3, ok4⟩
set_option maxRecDepth 100000 in
theorem reads_SessEvent {n len cap : Nat} {a : Option Addr} {x : DataW H × List MemPlace} (h : DataW.trod enc Tryd.prog w base sp held n 38 [.slice a len cap] = some x) :
    ∃ l : List SessEventT, SlSessEvent w a len l ∧ (∀ q ∈ l, SessEventT.Ok q) ∧ len ≤ maxLen := by
  have hc : Tryd.prog.cellsOf 84 = 5 := by kernel_rfl
  rcases Go.Deep.open_slice Tryd.underlying38 h with ⟨hcs, _⟩ | ⟨a', len', cap', m, n', D, Pl, hcs, _, hl, hm, hmm, _, hel⟩
  · simp at hcs
    obtain ⟨rfl, rfl, rfl⟩ := hcs
    exact ⟨[], ⟨rfl, .inl rfl⟩, by simp, Nat.zero_le _⟩
  · simp at hcs
    obtain ⟨rfl, rfl, rfl⟩ := hcs
    have hlm : len ≤ m := by rw [hmm]; split <;> omega
    by_cases h0 : len = 0
    · subst h0; exact ⟨[], ⟨rfl, .inl rfl⟩, by simp, Nat.zero_le _⟩
    have hspot : a'.spot = none := by
      obtain ⟨cs', h1, h2⟩ := hel 0 (by omega)
      rw [hc] at h1
      obtain ⟨A, rfl, _⟩ := read_SessEvent h2
      have e0 := (World.cells?_some h1).2.2 0 (by omega)
      simp [Addr.add] at e0
      exact World.cell?_spot e0
    obtain ⟨b, off, spot⟩ := a'
    simp only at hspot
    subst hspot
    have hA : ∀ i, i < len → ∃ A : SessEventT, A.Ok ∧ (w.cell? ⟨b, off + i * 5, none⟩ = some (.int .i64 A.f0) ∧ w.cell? ⟨b, off + i * 5 + 1, none⟩ = some (.int .i64 A.f1) ∧ w.cell? ⟨b, off + i * 5 + 2, none⟩ = some (.string A.f2) ∧ w.cell? ⟨b, off + i * 5 + 3, none⟩ = some (.string A.f3) ∧ w.cell? ⟨b, off + i * 5 + 4, none⟩ = some (.string A.f4)) ∧ b < w.heap.size := by
      intro i hi
      obtain ⟨cs', h1, h2⟩ := hel i (by omega)
      rw [hc, addr_SessEvent] at h1
      obtain ⟨A, rfl, hok⟩ := read_SessEvent h2
      have h3 := (World.cells?_some h1).2.2
      have e0 := h3 0 (by omega)
      have e1 := h3 1 (by omega)
      have e2 := h3 2 (by omega)
      have e3 := h3 3 (by omega)
      have e4 := h3 4 (by omega)
      rw [addr_SessEvent] at e0 e1 e2 e3 e4
      exact ⟨A, hok, ⟨e0, e1, e2, e3, e4⟩, World.block_lt_of_cell? w ⟨b, off + i * 5 + 0, none⟩ e0⟩
    obtain ⟨f, hf⟩ := @Go.Deep.choose_lt SessEventT ⟨⟨0, 0, ⟨#[]⟩, ⟨#[]⟩, ⟨#[]⟩⟩⟩ len (fun i A => A.Ok ∧ (w.cell? ⟨b, off + i * 5, none⟩ = some (.int .i64 A.f0) ∧ w.cell? ⟨b, off + i * 5 + 1, none⟩ = some (.int .i64 A.f1) ∧ w.cell? ⟨b, off + i * 5 + 2, none⟩ = some (.string A.f2) ∧ w.cell? ⟨b, off + i * 5 + 3, none⟩ = some (.string A.f3) ∧ w.cell? ⟨b, off + i * 5 + 4, none⟩ = some (.string A.f4)) ∧ b < w.heap.size) hA
    refine ⟨(List.range len).map f, ⟨by simp, .inr ⟨b, off, rfl, (hf 0 (by omega)).2.2, fun i hi => ?_, fun i hi => ?_, fun i hi => ?_, fun i hi => ?_, fun i hi => ?_⟩⟩, ?_, by omega⟩
    · simp at hi
      have := (hf i hi).2.1.1
      simpa using this
    · simp at hi
      have := (hf i hi).2.1.2.1
      simpa using this
    · simp at hi
      have := (hf i hi).2.1.2.2.1
      simpa using this
    · simp at hi
      have := (hf i hi).2.1.2.2.2.1
      simpa using this
    · simp at hi
      have := (hf i hi).2.1.2.2.2.2
      simpa using this
    · intro q hq
      simp at hq
      obtain ⟨i, hi, rfl⟩ := hq
      exact (hf i hi).1
set_option maxRecDepth 100000 in
/-- A slice that came in. -/
theorem read_SessEvents {r : Reach} {b0 : Nat} {v0 : Value} {d : DataW H} {p : List MemPlace} (hv : Value.okWide Tryd.prog w r b0 38 v0) (h : DataW.Trod enc Tryd.prog w base sp held 38 v0 d p) :
    ∃ (l : List SessEventT) (a : Option Addr) (len cap : Nat), v0 = .slice a len cap ∧ SlSessEvent w a len l ∧ (∀ q ∈ l, SessEventT.Ok q) ∧ len ≤ maxLen := by
  obtain ⟨fuel, hf0⟩ := h
  obtain ⟨a, len, cap, rfl⟩ := okWide_slice Tryd.underlying38 hv
  obtain ⟨l, h1, h2, h3⟩ := reads_SessEvent hf0
  exact ⟨l, a, len, cap, rfl, h1, h2, h3⟩
end
end Go.Proofs.YtppkgcedkdeccaaDoor
/- Slices of impl.SessReply: in memory, read, sized, copied, held against each other. -/
namespace Go.Proofs.YtppkgcedkdeccaaDoor
open Go.ChangeShapes Go.WideShapes Go.RowKit

structure SessReplyT where
  f0 : Int
  f1 : ByteArray
  f2 : ByteArray
  f3 : Int
structure SessReplyT.Ok (x : SessReplyT) : Prop where
  o0 : (Lit.int .i64 x.f0).wf = true
  o1 : x.f1.size ≤ maxLen
  o2 : x.f2.size ≤ maxLen
  o3 : (Lit.int .i64 x.f3).wf = true
def encSessReply (x : SessReplyT) : List Value := [.int .i64 x.f0, .string x.f1, .string x.f2, .int .i64 x.f3]
structure SessReplyRow (w : World) (b off : Nat) (l : List SessReplyT) : Prop where
  z : b < w.heap.size
  c0 : ∀ i (h : i < l.length), w.cell? ⟨b, off + i * 4, none⟩ = some (.int .i64 l[i].f0)
  c1 : ∀ i (h : i < l.length), w.cell? ⟨b, off + i * 4 + 1, none⟩ = some (.string l[i].f1)
  c2 : ∀ i (h : i < l.length), w.cell? ⟨b, off + i * 4 + 2, none⟩ = some (.string l[i].f2)
  c3 : ∀ i (h : i < l.length), w.cell? ⟨b, off + i * 4 + 3, none⟩ = some (.int .i64 l[i].f3)
theorem SessReplyRow.keep {w w1 : World} {b off : Nat} {l : List SessReplyT} (h : SessReplyRow w b off l) (hb : Below w.heap.size w w1) : SessReplyRow w1 b off l :=
  ⟨Nat.lt_of_lt_of_le h.z hb.size, fun i hi => cellB hb h.z (h.c0 i hi), fun i hi => cellB hb h.z (h.c1 i hi), fun i hi => cellB hb h.z (h.c2 i hi), fun i hi => cellB hb h.z (h.c3 i hi)⟩
def SlSessReply (w : World) (a : Option Addr) (len : Nat) (l : List SessReplyT) : Prop := len = l.length ∧ (l = [] ∨ ∃ b off, a = some ⟨b, off, none⟩ ∧ SessReplyRow w b off l)
theorem SlSessReply.keep {w w1 : World} {a : Option Addr} {len : Nat} {l : List SessReplyT} (h : SlSessReply w a len l) (hb : Below w.heap.size w w1) : SlSessReply w1 a len l :=
  ⟨h.1, by
    rcases h.2 with e | ⟨b, off, e, r⟩
    · exact .inl e
    · exact .inr ⟨b, off, e, r.keep hb⟩⟩
theorem SlSessReply.at {w : World} {a : Option Addr} {len : Nat} {l : List SessReplyT} (h : SlSessReply w a len l) {k : Nat} (hk : k < len) : ∃ b off, a = some ⟨b, off, none⟩ ∧ SessReplyRow w b off l := by
  rcases h.2 with e | e
  · rw [h.1, e] at hk; simp at hk
  · exact e
theorem bStSessReply {w w' : World} (h : Below w.heap.size w w') (b o : Nat) (hb : w.heap.size ≤ b) (v : Value) : Below w.heap.size w (w'.setCell ⟨b, o, none⟩ v) := h.setCell hb v
set_option maxHeartbeats 400000 in
theorem eqSessReply_same (f0 : Int) (f1 : ByteArray) (f2 : ByteArray) (f3 : Int) (w : World) :
    Calls Tryd.prog 38 #[.agg #[.int .i64 f0, .string f1, .string f2, .int .i64 f3], .agg #[.int .i64 f0, .string f1, .string f2, .int .i64 f3]] w fun e w' => e = .returned (.bool true) ∧ Below w.heap.size w w' := by
  go_enter Tryd.func38, Tryd.ntmps38
  go_wp2
  go_ret
  exact ⟨rfl, bAl (bAl (Below.refl _ _) _) _⟩
theorem info_SessReply : (Tryd.prog.info? 31).map (fun i => (i.zero, i.size, i.bytes)) = some (some (.agg #[.int .i64 0, .string ByteArray.empty, .string ByteArray.empty, .int .i64 0]), 4, 48) := by kernel_rfl
theorem make_SessReply (len : Nat) (w : World) (h : len ≤ 1048576) : ∃ w1 C, (Instr.makeSlice 28 (.int .i64 (len : Int)) (.int .i64 (len : Int))).run Tryd.prog w = .ok (.slice (some ⟨w.heap.size, 0, none⟩) len len) w1 ∧
    Below w.heap.size w w1 ∧ RowIs w1 w.heap.size C 31 ∧ C.size = len * 4 := by
  obtain ⟨i, h1, h2⟩ := Option.map_eq_some_iff.1 info_SessReply
  simp only [Prod.mk.injEq] at h2
  obtain ⟨hz, hsz, hby⟩ := h2
  have hr := run_make (P := Tryd.prog) w 28 31 i _ Tryd.underlying28 h1 hz .i64 .i64 (len : Int) (len : Int) (by omega) (by omega) (by rw [hby]; omega) (by omega)
  rw [Int.toNat_natCast, hsz] at hr
  exact ⟨_, _, hr, bAl (Below.refl _ _) _, RowIs.new _ _ _, size_madeCells _ _⟩
def FilledSessReply (C : Array Value) (l : List SessReplyT) (k : Nat) : Prop := ∀ i (h : i < l.length), i < k → C[i * 4]? = some (.int .i64 l[i].f0) ∧ C[i * 4 + 1]? = some (.string l[i].f1) ∧ C[i * 4 + 2]? = some (.string l[i].f2) ∧ C[i * 4 + 3]? = some (.int .i64 l[i].f3)
def setSessReply (C : Array Value) (k : Nat) (x : SessReplyT) : Array Value := ((((C.setIfInBounds (k * 4) (.int .i64 x.f0)).setIfInBounds (k * 4 + 1) (.string x.f1)).setIfInBounds (k * 4 + 2) (.string x.f2)).setIfInBounds (k * 4 + 3) (.int .i64 x.f3))
theorem size_setSessReply (C : Array Value) (k : Nat) (x : SessReplyT) : (setSessReply C k x).size = C.size := by simp [setSessReply]
theorem FilledSessReply.set {C : Array Value} {l : List SessReplyT} {k : Nat} (h : FilledSessReply C l k) (hk : k < l.length) (hC : C.size = l.length * 4) : FilledSessReply (setSessReply C k l[k]) l (k + 1) := by
  intro i hi hik
  unfold setSessReply
  by_cases e : i = k
  · subst e
    have s0 : i * 4 < C.size := by omega
    have s1 : i * 4 + 1 < C.size := by omega
    have s2 : i * 4 + 2 < C.size := by omega
    have s3 : i * 4 + 3 < C.size := by omega
    simp [s0, s1, s2, s3]
  · have := h i hi (by omega)
    simp only [Array.getElem?_setIfInBounds]
    repeat rw [if_neg (by omega)]
    exact this
theorem FilledSessReply.row {w : World} {b : Nat} {C : Array Value} {T : TypeId} {l : List SessReplyT} (h : FilledSessReply C l l.length) (hr : RowIs w b C T) : SessReplyRow w b 0 l :=
  ⟨hr.lt, fun i hi => by rw [Nat.zero_add, hr.cell]; exact (h i hi hi).1, fun i hi => by rw [Nat.zero_add, hr.cell]; exact (h i hi hi).2.1, fun i hi => by rw [Nat.zero_add, hr.cell]; exact (h i hi hi).2.2.1, fun i hi => by rw [Nat.zero_add, hr.cell]; exact (h i hi hi).2.2.2⟩
set_option maxHeartbeats 1000000 in
theorem eqSessReplyS_same (a1 a2 : Option Addr) (len1 c1 len2 c2 : Nat) (l : List SessReplyT) (w : World) (h1 : SlSessReply w a1 len1 l) (h2 : SlSessReply w a2 len2 l) (hm : len1 ≤ maxLen) :
    Calls Tryd.prog 15 #[.slice a1 len1 c1, .slice a2 len2 c2] w fun e w' => e = .returned (.bool true) ∧ Below w.heap.size w w' := by
  unfold maxLen at hm
  obtain rfl : len1 = len2 := by rw [h1.1, h2.1]
  have H1 := hide h1
  have H2 := hide h2
  clear h1 h2
  go_enter Tryd.func15, Tryd.ntmps15
  go_wp2
  go_loopw [5] (fun i w' => ∃ k : Nat, k ≤ len1 ∧ i = .int .i64 k ∧ Below w.heap.size w w') (fun i _ => len1 - (Go.RowKit.intOf i).toNat)
  case atStart => exact ⟨0, Nat.zero_le _, rfl, Below.refl _ _⟩
  case round =>
    obtain ⟨k, hk, rfl, hbel⟩ := hrel
    by_cases hlt : k < len1
    · have g1 := hide ((unhide H1).keep hbel)
      have g2 := hide ((unhide H2).keep hbel)
      have hk' : k < l.length := by rw [← (unhide H1).1]; exact hlt
      obtain ⟨b, off, rfl, r1⟩ := (unhide g1).at hlt
      obtain ⟨b', off', rfl, r2⟩ := (unhide g2).at hlt
      have p0 := r1.c0 k hk'
      have p1 := r1.c1 k hk'
      have p2 := r1.c2 k hk'
      have p3 := r1.c3 k hk'
      have q0 := r2.c0 k hk'
      have q1 := r2.c1 k hk'
      have q2 := r2.c2 k hk'
      have q3 := r2.c3 k hk'
      have z1 := r1.z
      have z2 := r2.z
      clear r1 r2 g1 g2
      generalize l[k] = A at p0 p1 p2 p3 q0 q1 q2 q3
      have ne : Nonempty (Kept wr) := ⟨⟨wr, Below.refl _ _⟩⟩
      have x0 := kept_cell z1 p0
      have x1 := kept_cell z1 p1
      have x2 := kept_cell z1 p2
      have x3 := kept_cell z1 p3
      have y0 := kept_cell z2 q0
      have y1 := kept_cell z2 q1
      have y2 := kept_cell z2 q2
      have y3 := kept_cell z2 q3
      have i0 : (0 : Int) ≤ (k : Int) := by omega
      have i1 : (k : Int) < (len1 : Int) := by omega
      go_wp2_with fail
      refine wp_region_kept (by kernel_rfl) (by kernel_rfl) ?_
      repeat (first
        | go_big_quiet_step ((go_at_call 38; exact kept_call (eqSessReply_same _ _ _ _ _)))
        | quiet_step ((go_at_call 38; exact kept_call (eqSessReply_same _ _ _ _ _))))
      refine wpQuiet_nil ?_
      rintro _ ⟨q, rfl⟩
      clear ne x0 x1 x2 x3 y0 y1 y2 y3
      obtain ⟨w3, hb3⟩ := q
      go_wp2_with fail
      exact ⟨⟨k + 1, by omega, by go_num, bTr hbel hb3⟩, by simp [Go.RowKit.intOf]; omega⟩
    · go_wp2_with fail
      go_ret
      exact ⟨rfl, hbel⟩
def SessReplysV (l : List SessReplyT) : List Value := l.flatMap encSessReply
theorem SessReplysV_snoc (l : List SessReplyT) (c : SessReplyT) : SessReplysV (l ++ [c]) = SessReplysV l ++ encSessReply c := by simp [SessReplysV]
theorem encSessReply_one (c : SessReplyT) : ∀ x ∈ encSessReply c, x.oneCell' = true := by
  intro x hx
  simp [encSessReply] at hx
  rcases hx with rfl | rfl | rfl | rfl <;> rfl
theorem SessReplysV_get : ∀ (l : List SessReplyT) (i : Nat) (h : i < l.length) (j : Nat) (v : Value), (encSessReply l[i])[j]? = some v → (SessReplysV l)[i * 4 + j]? = some v
  | [], i, h, _, _, _ => absurd h (Nat.not_lt_zero _)
  | c :: l, 0, _, j, v, hv => by
    have hj := (List.getElem?_eq_some_iff.1 hv).1
    have e : SessReplysV (c :: l) = encSessReply c ++ SessReplysV l := by simp [SessReplysV]
    rw [e, List.getElem?_append_left (by simpa using hj)]
    simpa using hv
  | c :: l, i + 1, h, j, v, hv => by
    have e : SessReplysV (c :: l) = encSessReply c ++ SessReplysV l := by simp [SessReplysV]
    have hl : (encSessReply c).length = 4 := rfl
    rw [e, List.getElem?_append_right (by rw [hl]; omega), hl, show (i + 1) * 4 + j - 4 = i * 4 + j by omega]
    exact SessReplysV_get l i (by simpa using h) j v (by simpa using hv)
theorem own_SessReply {w : World} {base : Nat} {v : Value} {l : List SessReplyT} (h : w.ownsRow base 31 4 v l.length (SessReplysV l)) : ∃ a cap, v = .slice a l.length cap ∧ SlSessReply w a l.length l := by
  rcases h.2 with ⟨rfl, e⟩ | ⟨g, cap, cur, rfl, _, hh, _, _, hsz, htk⟩
  · have : l = [] := List.length_eq_zero_iff.1 e
    subst this
    exact ⟨none, 0, rfl, rfl, .inl rfl⟩
  · have hr : RowIs w g cur 31 := hh
    have hc : ∀ i (hi : i < l.length) j u, (encSessReply l[i])[j]? = some u → w.cell? ⟨g, 0 + i * 4 + j, none⟩ = some u := fun i hi j u hu => by
      have hu2 := SessReplysV_get l i hi j u hu
      rw [← htk, List.getElem?_take] at hu2
      rw [Nat.zero_add, hr.cell, ← Array.getElem?_toList]
      split at hu2
      · exact hu2
      · cases hu2
    exact ⟨_, _, rfl, rfl, .inr ⟨g, 0, rfl, hr.lt, fun i hi => hc i hi 0 _ rfl, fun i hi => hc i hi 1 _ rfl, fun i hi => hc i hi 2 _ rfl, fun i hi => hc i hi 3 _ rfl⟩⟩
theorem eqOwnSessReply {w : World} {b1 b2 : Nat} {v1 v2 : Value} {l : List SessReplyT} (h1 : w.ownsRow b1 31 4 v1 l.length (SessReplysV l)) (h2 : w.ownsRow b2 31 4 v2 l.length (SessReplysV l)) (hl : l.length ≤ 1000000) :
    Calls Tryd.prog 15 #[v1, v2] w fun e w' => e = .returned (.bool true) ∧ Below w.heap.size w w' := by
  obtain ⟨a1, c1, rfl, s1⟩ := own_SessReply h1
  obtain ⟨a2, c2, rfl, s2⟩ := own_SessReply h2
  exact eqSessReplyS_same a1 a2 l.length c1 l.length c2 l w s1 s2 (by unfold maxLen; omega)
theorem listnSessReply {α : Type} {l : List α} (h : l.length = 4) : ∃ a0 a1 a2 a3, l = [a0, a1, a2, a3] := by
  match l, h with
  | [a0, a1, a2, a3], _ => exact ⟨a0, a1, a2, a3, rfl⟩
section
variable {H : Type} {enc : TypeId × Value → H} {w : World} {base : Nat} {sp : Nat → Bool} {held : Bool}
theorem addr_SessReply (b off k : Nat) : (⟨b, off, none⟩ : Addr).add k = ⟨b, off + k, none⟩ := by
  unfold Addr.add; split <;> simp_all
end
end Go.Proofs.YtppkgcedkdeccaaDoor
/- Sessions: pure. -/
namespace Go.Proofs.YtppkgcedkdeccaaDoor
set_option linter.unusedSimpArgs false
set_option linter.unusedVariables false
set_option maxRecDepth 20000
open Go.RowKit Go.Maps

/-! ### Ids are apart -/
theorem dd_val : ∀ u : Nat, (Lib.decDigits u).foldl (fun a c => a * 10 + (c.toNat - 48)) 0 = u := by
  intro u
  induction u using Nat.strongRecOn with
  | _ u ih =>
    rw [Lib.decDigits]
    split
    · rename_i h
      have h2 : (UInt8.ofNat (48 + u)).toNat = 48 + u := by simp; omega
      simp only [List.foldl_cons, List.foldl_nil, h2]
      omega
    · rename_i h
      have h2 : (UInt8.ofNat (48 + u % 10)).toNat = 48 + u % 10 := by simp; omega
      rw [List.foldl_append, ih (u / 10) (by omega)]
      simp only [List.foldl_cons, List.foldl_nil, h2]
      omega
theorem dd_dig : ∀ u : Nat, ∀ c ∈ Lib.decDigits u, c ≠ 45 := by
  intro u
  induction u using Nat.strongRecOn with
  | _ u ih =>
    intro c hc
    rw [Lib.decDigits] at hc
    split at hc
    · rename_i h
      rw [List.mem_singleton] at hc
      have h2 : c.toNat = 48 + u := by rw [hc]; simp; omega
      rintro rfl
      simp at h2
      omega
    · rename_i h
      rcases List.mem_append.1 hc with h1 | h1
      · exact ih (u / 10) (by omega) c h1
      · rw [List.mem_singleton] at h1
        have h2 : c.toNat = 48 + u % 10 := by rw [h1]; simp; omega
        rintro rfl
        simp at h2
        omega
theorem cut_eq {x : UInt8} : ∀ {a b r s : List UInt8}, (∀ c ∈ a, c ≠ x) → (∀ c ∈ b, c ≠ x) → a ++ x :: r = b ++ x :: s → a = b
  | [], [], _, _, _, _, _ => rfl
  | [], y :: b, _, _, _, hb, h => by
    simp only [List.nil_append, List.cons_append, List.cons.injEq] at h
    exact absurd h.1.symm (hb y (by simp))
  | y :: a, [], _, _, ha, _, h => by
    simp only [List.nil_append, List.cons_append, List.cons.injEq] at h
    exact absurd h.1 (ha y (by simp))
  | y :: a, z :: b, _, _, ha, hb, h => by
    simp only [List.cons_append, List.cons.injEq] at h
    rw [h.1, cut_eq (fun c hc => ha c (List.mem_cons_of_mem _ hc)) (fun c hc => hb c (List.mem_cons_of_mem _ hc)) h.2]
def sessB : ByteArray := ⟨#[115, 101, 115, 115]⟩
def idOf (k : List UInt8) (n : Nat) : ByteArray := D.hd k sessB n
theorem idOf_list (k : List UInt8) (n : Nat) : (idOf k n).data.toList = [115, 101, 115, 115] ++ (Lib.decDigits n ++ 45 :: D.arm (D.hdB k sessB n)) := by
  unfold idOf D.hd D.hdH sessB
  rw [Lib.itoa_nonneg]
  simp [ByteArray.data_append]
theorem idOf_inj {k : List UInt8} {n m : Nat} (h : idOf k n = idOf k m) : n = m := by
  have e := congrArg (fun b : ByteArray => b.data.toList) h
  simp only [idOf_list] at e
  have e2 := cut_eq (dd_dig n) (dd_dig m) (List.append_cancel_left e)
  rw [← dd_val n, e2, dd_val m]
theorem idOf_size (k : List UInt8) (n : Nat) (h : n ≤ 1000000) : (idOf k n).size ≤ 200 := by
  have e1 : (D.hdH sessB n).size ≤ 25 := by
    unfold D.hdH; rw [ByteArray.size_append]
    have := D.itoaB (n : Int) (by omega) (by omega)
    have h4 : sessB.size = 4 := rfl
    omega
  have e2 : (⟨(D.arm (D.hdB k sessB n)).toArray⟩ : ByteArray).size ≤ 100 := by
    show (D.arm (D.hdB k sessB n)).toArray.size ≤ 100
    have h8 : (D.hdB k sessB n).length ≤ 10 := by unfold D.hdB; rw [List.length_take]; omega
    simp only [List.size_toArray, D.arm_len, D.many]
    omega
  unfold idOf D.hd
  rw [ByteArray.size_append, ByteArray.size_append]
  have h1 : (⟨#[45]⟩ : ByteArray).size = 1 := rfl
  omega

/-! ### the state -/
structure SxT where
  ids : List ByteArray
  user : ByteArray
  device : ByteArray
  level : Int
  login : Int
  last : Int
  dead : Bool
structure SsT where
  key : List UInt8
  idle : Int
  most : Int
  now : Int
  given : Nat
  list : List SxT
def lastI (l : List ByteArray) : ByteArray := l.getLastD ⟨#[]⟩
theorem lastI_snoc (l : List ByteArray) (z : ByteArray) : lastI (l ++ [z]) = z := by simp [lastI]
theorem lastI_get {l : List ByteArray} (h : l ≠ []) : l[l.length - 1]? = some (lastI l) := by
  unfold lastI
  rw [List.getLastD_eq_getLast?, ← List.getLast?_eq_getElem?]
  cases e : l.getLast? with
  | none => rw [List.getLast?_eq_none_iff] at e; exact absurd e h
  | some x => rfl
def emp (s : ByteArray) : Bool := s.toList == []
def fitE (k t : Int) (u d i : ByteArray) : Bool :=
  decide (0 ≤ t ∧ t ≤ 100000000000) && (if k = 1 then goodName u && goodName d && emp i else if k = 2 ∨ k = 3 ∨ k = 4 then emp u && goodName d else if k = 5 then goodName u && emp d && emp i else false)
def overS (x : SsT) (s : SxT) (t : Int) : Bool := decide (s.last + x.idle < t) || decide (s.login + x.most < t)
def errR (n : Int) : SessReplyT := ⟨n, ⟨#[]⟩, ⟨#[]⟩, 0⟩
def toldR (s : SxT) : SessReplyT := ⟨0, lastI s.ids, s.user, s.level⟩
open Classical in
/-- The last one of the first k lists that has y. -/
noncomputable def findK (L : List (List ByteArray)) (y : ByteArray) : Nat → Option Nat
  | 0 => none
  | k + 1 => if y ∈ L.getD k [] then some k else findK L y k
open Classical in
theorem findK_succ (L : List (List ByteArray)) (y : ByteArray) (k : Nat) : findK L y (k + 1) = if y ∈ L.getD k [] then some k else findK L y k := rfl
noncomputable def findI (L : List (List ByteArray)) (y : ByteArray) : Option Nat := findK L y L.length
theorem findK_some {L : List (List ByteArray)} {y : ByteArray} : ∀ {k i : Nat}, findK L y k = some i → i < k ∧ y ∈ L.getD i []
  | 0, i, h => by cases h
  | k + 1, i, h => by
    unfold findK at h
    split at h
    · cases h; rename_i hy; exact ⟨by omega, hy⟩
    · have := findK_some h; exact ⟨by omega, this.2⟩
theorem findK_none {L : List (List ByteArray)} {y : ByteArray} : ∀ {k : Nat}, findK L y k = none → ∀ i, i < k → y ∉ L.getD i []
  | 0, _, i, hi => by omega
  | k + 1, h, i, hi => by
    unfold findK at h
    split at h
    · cases h
    · rename_i hy
      by_cases e : i = k
      · rw [e]; exact hy
      · exact findK_none h i (by omega)
theorem findK_alike {L L' : List (List ByteArray)} {y : ByteArray} : ∀ {k : Nat}, (∀ i, i < k → (y ∈ L.getD i [] ↔ y ∈ L'.getD i [])) → findK L y k = findK L' y k
  | 0, _ => rfl
  | k + 1, h => by
    unfold findK
    rw [findK_alike (k := k) (fun i hi => h i (by omega))]
    by_cases e : y ∈ L.getD k []
    · rw [if_pos e, if_pos ((h k (by omega)).1 e)]
    · rw [if_neg e, if_neg (fun q => e ((h k (by omega)).2 q))]
theorem findI_snoc (L : List (List ByteArray)) (z y : ByteArray) : findI (L ++ [[z]]) y = if y = z then some L.length else findI L y := by
  unfold findI
  rw [List.length_append, List.length_singleton, findK_succ]
  have e : (L ++ [[z]]).getD L.length [] = [z] := by simp [List.getD_eq_getElem?_getD]
  rw [e]
  by_cases h : y = z
  · rw [if_pos (by simp [h]), if_pos h]
  · rw [if_neg (by simp [h]), if_neg h]
    exact findK_alike fun i hi => by simp [List.getD_eq_getElem?_getD, List.getElem?_append_left hi]
theorem findK_only {L : List (List ByteArray)} {y : ByteArray} {i : Nat} (hi : y ∈ L.getD i []) (ho : ∀ j, j ≠ i → y ∉ L.getD j []) : ∀ {k : Nat}, i < k → findK L y k = some i
  | 0, h => by omega
  | k + 1, h => by
    unfold findK
    by_cases e : k = i
    · subst e; rw [if_pos hi]
    · rw [if_neg (ho k e)]
      exact findK_only hi ho (by omega)
theorem findI_set {L : List (List ByteArray)} {i : Nat} {z : ByteArray} (hi : i < L.length) (hz : ∀ l ∈ L, z ∉ l) (y : ByteArray) : findI (L.set i (L[i] ++ [z])) y = if y = z then some i else findI L y := by
  have g : ∀ j, (L.set i (L[i] ++ [z])).getD j [] = if j = i then L[i] ++ [z] else L.getD j [] := by
    intro j
    rw [List.getD_eq_getElem?_getD, List.getElem?_set]
    by_cases e : j = i
    · subst e; simp [hi]
    · rw [if_neg (fun q => e q.symm), if_neg e, List.getD_eq_getElem?_getD]
  have no : ∀ j, z ∉ L.getD j [] := by
    intro j
    by_cases h : j < L.length
    · have : L.getD j [] = L[j] := by simp [List.getD_eq_getElem?_getD, h]
      rw [this]; exact hz _ (List.getElem_mem h)
    · have : L.getD j [] = [] := by simp [List.getD_eq_getElem?_getD, List.getElem?_eq_none (Nat.not_lt.1 h)]
      rw [this]; simp
  unfold findI
  rw [List.length_set]
  by_cases h : y = z
  · rw [if_pos h, h]
    refine findK_only ?_ ?_ hi
    · rw [g, if_pos rfl]; simp
    · intro j hj; rw [g, if_neg hj]; exact no j
  · rw [if_neg h]
    refine findK_alike fun j hj => ?_
    rw [g]
    by_cases e : j = i
    · subst e
      rw [if_pos rfl]
      have : L.getD j [] = L[j] := by simp [List.getD_eq_getElem?_getD, hi]
      rw [this]; simp [h]
    · rw [if_neg e]
def idsL (l : List SxT) : List (List ByteArray) := l.map (·.ids)
open Classical in
noncomputable def killAll (u : ByteArray) (l : List SxT) : List SxT := l.map fun s => if s.user = u then { s with dead := true } else s
theorem idsL_killAll (u : ByteArray) (l : List SxT) : idsL (killAll u l) = idsL l := by
  unfold idsL killAll
  rw [List.map_map]
  refine List.map_congr_left fun s _ => ?_
  show (if s.user = u then { s with dead := true } else s).ids = s.ids
  split <;> rfl
/-- What event (k, t, u, d, i) makes of a state, and what is told. -/
inductive StepS (x : SsT) (k t : Int) (u d i : ByteArray) : SsT → SessReplyT → Prop
  | unfit : fitE k t u d i = false → StepS x k t u d i x (errR 1)
  | past : fitE k t u d i = true → t < x.now → StepS x k t u d i x (errR 2)
  | login : fitE k t u d i = true → x.now ≤ t → k = 1 → StepS x k t u d i { x with now := t, given := x.given + 1, list := x.list ++ [⟨[idOf x.key (x.given + 1)], u, d, 1, t, t, false⟩] } ⟨0, idOf x.key (x.given + 1), u, 1⟩
  | all : fitE k t u d i = true → x.now ≤ t → k = 5 → StepS x k t u d i { x with now := t, list := killAll u x.list } ⟨0, ⟨#[]⟩, u, 0⟩
  | unknown : fitE k t u d i = true → x.now ≤ t → k ≠ 1 → k ≠ 5 → findI (idsL x.list) i = none → StepS x k t u d i { x with now := t } (errR 3)
  | stolen : ∀ (j : Nat) (hj : j < x.list.length), fitE k t u d i = true → x.now ≤ t → k ≠ 1 → k ≠ 5 → findI (idsL x.list) i = some j → ¬ (lastI x.list[j].ids = i ∧ x.list[j].device = d) → StepS x k t u d i { x with now := t, list := x.list.set j { x.list[j] with dead := true } } (errR 4)
  | dead : ∀ (j : Nat) (hj : j < x.list.length), fitE k t u d i = true → x.now ≤ t → k ≠ 1 → k ≠ 5 → findI (idsL x.list) i = some j → (lastI x.list[j].ids = i ∧ x.list[j].device = d) → x.list[j].dead = true → StepS x k t u d i { x with now := t } (errR 5)
  | over : ∀ (j : Nat) (hj : j < x.list.length), fitE k t u d i = true → x.now ≤ t → k ≠ 1 → k ≠ 5 → findI (idsL x.list) i = some j → (lastI x.list[j].ids = i ∧ x.list[j].device = d) → x.list[j].dead = false → overS x x.list[j] t = true → StepS x k t u d i { x with now := t } (errR 6)
  | use : ∀ (j : Nat) (hj : j < x.list.length), fitE k t u d i = true → x.now ≤ t → k ≠ 1 → k ≠ 5 → findI (idsL x.list) i = some j → (lastI x.list[j].ids = i ∧ x.list[j].device = d) → x.list[j].dead = false → overS x x.list[j] t = false → k ≠ 3 → k ≠ 4 →
      StepS x k t u d i { x with now := t, list := x.list.set j { x.list[j] with last := t } } (toldR x.list[j])
  | out : ∀ (j : Nat) (hj : j < x.list.length), fitE k t u d i = true → x.now ≤ t → k = 4 → findI (idsL x.list) i = some j → (lastI x.list[j].ids = i ∧ x.list[j].device = d) → x.list[j].dead = false → overS x x.list[j] t = false →
      StepS x k t u d i { x with now := t, list := x.list.set j { x.list[j] with last := t, dead := true } } (toldR x.list[j])
  | raise : ∀ (j : Nat) (hj : j < x.list.length), fitE k t u d i = true → x.now ≤ t → k = 3 → findI (idsL x.list) i = some j → (lastI x.list[j].ids = i ∧ x.list[j].device = d) → x.list[j].dead = false → overS x x.list[j] t = false →
      StepS x k t u d i { x with now := t, given := x.given + 1, list := x.list.set j { x.list[j] with last := t, level := min (x.list[j].level + 1) 9, ids := x.list[j].ids ++ [idOf x.key (x.given + 1)] } } ⟨0, idOf x.key (x.given + 1), x.list[j].user, min (x.list[j].level + 1) 9⟩
end Go.Proofs.YtppkgcedkdeccaaDoor
