/- RTer, one behind the other. -/
import Derived.Test.YtdflnjjomljgmaaGreatDoorJ5
import Derived.Test.YtdflnjjomljgmaaGreatDoorJ9
import Derived.ProofKit
import Derived.Deep.Slices
import Derived.Laws.MakeOwn
import Derived.OwnWalk
/- Slices of impl.CavTerm: in memory, read, sized, copied, held against each other. -/
namespace Go.Proofs.YtdflnjjomljgmaaGreatDoor.V
open Go.ChangeShapes Go.WideShapes Go.RowKit

structure CavTermT where
  f0 : ByteArray
  f1 : Int
  f2 : ByteArray
  f3 : Int
  f4 : Int
  f5 : ByteArray
  f6 : ByteArray
structure CavTermT.Ok (x : CavTermT) : Prop where
  o0 : x.f0.size ≤ maxLen
  o1 : (Lit.int .i64 x.f1).wf = true
  o2 : x.f2.size ≤ maxLen
  n8 : -9223372036854775808 ≤ x.f4
  n9 : x.f4 ≤ 9223372036854775807
  o5 : x.f5.size ≤ maxLen
  o6 : x.f6.size ≤ maxLen
def encCavTerm (x : CavTermT) : List Value := [.string x.f0, .int .i64 x.f1, .string x.f2, .int .i64 x.f3, .int .i64 x.f4, .string x.f5, .string x.f6]
structure CavTermRow (w : World) (b off : Nat) (l : List CavTermT) : Prop where
  z : b < w.heap.size
  c0 : ∀ i (h : i < l.length), w.cell? ⟨b, off + i * 7, none⟩ = some (.string l[i].f0)
  c1 : ∀ i (h : i < l.length), w.cell? ⟨b, off + i * 7 + 1, none⟩ = some (.int .i64 l[i].f1)
  c2 : ∀ i (h : i < l.length), w.cell? ⟨b, off + i * 7 + 2, none⟩ = some (.string l[i].f2)
  c3 : ∀ i (h : i < l.length), w.cell? ⟨b, off + i * 7 + 3, none⟩ = some (.int .i64 l[i].f3)
  c4 : ∀ i (h : i < l.length), w.cell? ⟨b, off + i * 7 + 4, none⟩ = some (.int .i64 l[i].f4)
  c5 : ∀ i (h : i < l.length), w.cell? ⟨b, off + i * 7 + 5, none⟩ = some (.string l[i].f5)
  c6 : ∀ i (h : i < l.length), w.cell? ⟨b, off + i * 7 + 6, none⟩ = some (.string l[i].f6)
theorem CavTermRow.keep {w w1 : World} {b off : Nat} {l : List CavTermT} (h : CavTermRow w b off l) (hb : Below w.heap.size w w1) : CavTermRow w1 b off l :=
  ⟨Nat.lt_of_lt_of_le h.z hb.size, fun i hi => cellB hb h.z (h.c0 i hi), fun i hi => cellB hb h.z (h.c1 i hi), fun i hi => cellB hb h.z (h.c2 i hi), fun i hi => cellB hb h.z (h.c3 i hi), fun i hi => cellB hb h.z (h.c4 i hi), fun i hi => cellB hb h.z (h.c5 i hi), fun i hi => cellB hb h.z (h.c6 i hi)⟩
def SlCavTerm (w : World) (a : Option Addr) (len : Nat) (l : List CavTermT) : Prop := len = l.length ∧ (l = [] ∨ ∃ b off, a = some ⟨b, off, none⟩ ∧ CavTermRow w b off l)
theorem SlCavTerm.keep {w w1 : World} {a : Option Addr} {len : Nat} {l : List CavTermT} (h : SlCavTerm w a len l) (hb : Below w.heap.size w w1) : SlCavTerm w1 a len l :=
  ⟨h.1, by
    rcases h.2 with e | ⟨b, off, e, r⟩
    · exact .inl e
    · exact .inr ⟨b, off, e, r.keep hb⟩⟩
theorem SlCavTerm.at {w : World} {a : Option Addr} {len : Nat} {l : List CavTermT} (h : SlCavTerm w a len l) {k : Nat} (hk : k < len) : ∃ b off, a = some ⟨b, off, none⟩ ∧ CavTermRow w b off l := by
  rcases h.2 with e | e
  · rw [h.1, e] at hk; simp at hk
  · exact e
theorem bStCavTerm {w w' : World} (h : Below w.heap.size w w') (b o : Nat) (hb : w.heap.size ≤ b) (v : Value) : Below w.heap.size w (w'.setCell ⟨b, o, none⟩ v) := h.setCell hb v
set_option maxHeartbeats 1000000 in
theorem toCavTerm_any (f0 : ByteArray) (f1 : Int) (f2 : ByteArray) (f3 : Int) (f4 : Int) (f5 : ByteArray) (f6 : ByteArray) (w : World) :
    Calls Tryz.prog 49 #[.agg #[.string f0, .int .i64 f1, .string f2, .int .i64 f3, .int .i64 f4, .string f5, .string f6]] w fun e w' => e = .returned (.agg #[.string f0, .int .i64 f1, .string f2, .int .i64 f3, .int .i64 f4, .string f5, .string f6]) ∧ Below w.heap.size w w' := by
  go_enter Tryz.func49, Tryz.ntmps49
  go_wp2_with fail
  refine (toAtom_any _ _ _ _ _).mono ?_
  rintro e w1 ⟨rfl, hb1⟩
  have bw := hide (bTr (bAl (bAl (bAl (Below.refl _ _) _) _) _) hb1)
  have ro := ((RowIs.new (w.alloc _) _ _).keep (bAl (Below.refl _ _) _)).keep hb1
  have out := (RowIs.new ((w.alloc _).alloc _) _ _).keep hb1
  simp only [World.size_alloc] at ro out
  clear hb1
  have k0 : w1.cell? ⟨w.heap.size + 1 + 1, 0, none⟩ = some (.string f0) := out.at rfl
  have k1 : w1.cell? ⟨w.heap.size + 1 + 1, 1, none⟩ = some (.int .i64 f1) := out.at rfl
  have k2 : w1.cell? ⟨w.heap.size + 1 + 1, 2, none⟩ = some (.string f2) := out.at rfl
  have k3 : w1.cell? ⟨w.heap.size + 1 + 1, 3, none⟩ = some (.int .i64 0) := out.at rfl
  have k4 : w1.cell? ⟨w.heap.size + 1 + 1, 4, none⟩ = some (.int .i64 0) := out.at rfl
  have k5 : w1.cell? ⟨w.heap.size + 1 + 1, 5, none⟩ = some (.string ⟨#[]⟩) := out.at rfl
  have k6 : w1.cell? ⟨w.heap.size + 1 + 1, 6, none⟩ = some (.string ⟨#[]⟩) := out.at rfl
  have g3 := out.froz 3
  have g4 := out.froz 4
  have g5 := out.froz 5
  have g6 := out.froz 6
  have j0 : w1.cell? ⟨w.heap.size + 1, 0, none⟩ = some (.string ⟨#[]⟩) := ro.at rfl
  have h0 := ro.froz 0
  have j1 : w1.cell? ⟨w.heap.size + 1, 1, none⟩ = some (.int .i64 0) := ro.at rfl
  have h1 := ro.froz 1
  have j2 : w1.cell? ⟨w.heap.size + 1, 2, none⟩ = some (.string ⟨#[]⟩) := ro.at rfl
  have h2 := ro.froz 2
  have j3 : w1.cell? ⟨w.heap.size + 1, 3, none⟩ = some (.int .i64 0) := ro.at rfl
  have h3 := ro.froz 3
  have j4 : w1.cell? ⟨w.heap.size + 1, 4, none⟩ = some (.int .i64 0) := ro.at rfl
  have h4 := ro.froz 4
  have j5 : w1.cell? ⟨w.heap.size + 1, 5, none⟩ = some (.string ⟨#[]⟩) := ro.at rfl
  have h5 := ro.froz 5
  have j6 : w1.cell? ⟨w.heap.size + 1, 6, none⟩ = some (.string ⟨#[]⟩) := ro.at rfl
  have h6 := ro.froz 6
  clear out ro
  go_wp2_with fail
  refine bodyPost_ret (v := .agg #[.string f0, .int .i64 f1, .string f2, .int .i64 f3, .int .i64 f4, .string f5, .string f6]) (by simp [results, Tryz.results49, go_sem, j0, j1, j2, j3, j4, j5, j6]) rfl ⟨rfl, ?_⟩
  (repeat (refine Below.setCell ?_ (by simp; try omega) _))
  exact unhide bw
set_option maxHeartbeats 400000 in
theorem eqCavTerm_same (f0 : ByteArray) (f1 : Int) (f2 : ByteArray) (f3 : Int) (f4 : Int) (f5 : ByteArray) (f6 : ByteArray) (w : World) :
    Calls Tryz.prog 58 #[.agg #[.string f0, .int .i64 f1, .string f2, .int .i64 f3, .int .i64 f4, .string f5, .string f6], .agg #[.string f0, .int .i64 f1, .string f2, .int .i64 f3, .int .i64 f4, .string f5, .string f6]] w fun e w' => e = .returned (.bool true) ∧ Below w.heap.size w w' := by
  go_enter Tryz.func58, Tryz.ntmps58
  go_wp2_with fail
  refine (eqAtom_same _ _ _ _ _).mono ?_
  rintro e w1 ⟨rfl, hb1⟩
  go_wp2_with fail
  go_ret
  exact ⟨rfl, bTr (bAl (bAl (Below.refl _ _) _) _) hb1⟩
set_option maxHeartbeats 400000 in
theorem szCavTerm_any (f0 : ByteArray) (f1 : Int) (f2 : ByteArray) (f3 : Int) (f4 : Int) (f5 : ByteArray) (f6 : ByteArray) (l : Int) (w : World) (h0 : 0 ≤ l) (h1 : l ≤ 1048576) (s0 : f0.size ≤ maxLen) (s2 : f2.size ≤ maxLen) (s5 : f5.size ≤ maxLen) (s6 : f6.size ≤ maxLen) :
    Calls Tryz.prog 38 #[.agg #[.string f0, .int .i64 f1, .string f2, .int .i64 f3, .int .i64 f4, .string f5, .string f6], .int .i64 l] w fun e w' => (∃ m : Int, -1 ≤ m ∧ m ≤ l ∧ e = .returned (.int .i64 m)) ∧ Below w.heap.size w w' := by
  have q := hide (fun l w h0 h1 => szAtom_any f3 f4 l f5 f6 w h0 h1 s5 s6)
  clear s5 s6
  unfold maxLen at s0 s2
  by_cases g0 : l < (f0.size : Int)
  · go_enter Tryz.func38, Tryz.ntmps38
    go_wp2_with fail
    go_ret
    exact ⟨⟨_, by omega, by omega, rfl⟩, bAl (Below.refl _ _) _⟩
  have d0 : decide (l - (f0.size : Int) < 0) = false := by simp; omega
  by_cases g1 : l < (f0.size : Int) + f2.size
  · go_enter Tryz.func38, Tryz.ntmps38
    go_wp2_with fail
    go_ret
    exact ⟨⟨_, by omega, by omega, rfl⟩, bAl (Below.refl _ _) _⟩
  have d1 : decide (l - (f0.size : Int) - f2.size < 0) = false := by simp; omega
  go_enter Tryz.func38, Tryz.ntmps38
  go_wp2_with fail
  refine (unhide q _ _ (by omega) (by omega)).mono ?_
  rintro e w1 ⟨⟨m, hm1, hm2, rfl⟩, hb1⟩
  by_cases hm : m < 0
  · go_wp2_with fail
    go_ret
    exact ⟨⟨_, by omega, by omega, rfl⟩, bTr (bAl (Below.refl _ _) _) hb1⟩
  · go_wp2_with fail
    go_ret
    exact ⟨⟨_, by omega, by omega, rfl⟩, bTr (bAl (Below.refl _ _) _) hb1⟩
set_option maxHeartbeats 400000 in
theorem szCavTermS_any (a : Option Addr) (len cap : Nat) (l : List CavTermT) (left : Int) (w : World) (h0 : 0 ≤ left) (h1 : left ≤ 1048576) (hl : len ≤ maxLen) (hs : SlCavTerm w a len l) (hok : ∀ q ∈ l, CavTermT.Ok q) :
    Calls Tryz.prog 14 #[.slice a len cap, .int .i64 left] w fun e w' => (∃ m : Int, -1 ≤ m ∧ m ≤ left ∧ (0 ≤ m → (len : Int) ≤ left) ∧ e = .returned (.int .i64 m)) ∧ Below w.heap.size w w' := by
  unfold maxLen at hl
  by_cases hlen : left < (len : Int)
  · clear hs hok
    go_enter Tryz.func14, Tryz.ntmps14
    go_wp2
    go_ret
    exact ⟨⟨-1, by omega, by omega, by omega, rfl⟩, Below.refl _ _⟩
  have d1 : decide (left - (len : Int) < 0) = false := by simp; omega
  have HS := hide hs
  clear hs
  go_enter Tryz.func14, Tryz.ntmps14
  go_wp2
  go_loopw [1, 5] (fun m i w' => ∃ (k : Nat) (q : Int), k ≤ len ∧ 0 ≤ q ∧ q ≤ left ∧ i = .int .i64 k ∧ m = .int .i64 q ∧ Below w.heap.size w w') (fun _ i _ => len - (Go.RowKit.intOf i).toNat)
  case atStart => exact ⟨0, _, Nat.zero_le _, by omega, by omega, rfl, rfl, Below.refl _ _⟩
  case round =>
    obtain ⟨k, q, hk, hq1, hq2, rfl, rfl, hbel⟩ := hrel
    by_cases hlt : k < len
    · obtain ⟨b, off, rfl, hrow⟩ := ((unhide HS).keep hbel).at hlt
      have hk' : k < l.length := by rw [← (unhide HS).1]; exact hlt
      have c0 := hrow.c0 k hk'
      have c1 := hrow.c1 k hk'
      have c2 := hrow.c2 k hk'
      have c3 := hrow.c3 k hk'
      have c4 := hrow.c4 k hk'
      have c5 := hrow.c5 k hk'
      have c6 := hrow.c6 k hk'
      have ho := hok _ (List.getElem_mem hk')
      have hz := hide (fun q w h0 h1 => szCavTerm_any (l[k]).f0 (l[k]).f1 (l[k]).f2 (l[k]).f3 (l[k]).f4 (l[k]).f5 (l[k]).f6 q w h0 h1 ho.o0 ho.o2 ho.o5 ho.o6)
      clear hrow ho hok
      generalize l[k] = A at hz c0 c1 c2 c3 c4 c5 c6
      go_wp2_with fail
      refine (unhide hz _ _ (by omega) (by omega)).mono ?_
      rintro e w1 ⟨⟨m, hm1, hm2, rfl⟩, hb1⟩
      by_cases hm : m < 0
      · go_wp2_with fail
        go_ret
        exact ⟨⟨-1, by omega, by omega, by omega, rfl⟩, bTr hbel hb1⟩
      · go_wp2_with fail
        exact ⟨⟨k + 1, m, by omega, by omega, by omega, by go_num, rfl, bTr hbel hb1⟩, by simp [Go.RowKit.intOf]; omega⟩
    · go_wp2_with fail
      go_ret
      exact ⟨⟨q, by omega, by omega, by omega, rfl⟩, hbel⟩
theorem info_CavTerm : (Tryz.prog.info? 58).map (fun i => (i.zero, i.size, i.bytes)) = some (some (.agg #[.string ByteArray.empty, .int .i64 0, .string ByteArray.empty, .int .i64 0, .int .i64 0, .string ByteArray.empty, .string ByteArray.empty]), 7, 88) := by kernel_rfl
theorem make_CavTerm (len : Nat) (w : World) (h : len ≤ 1048576) : ∃ w1 C, (Instr.makeSlice 36 (.int .i64 (len : Int)) (.int .i64 (len : Int))).run Tryz.prog w = .ok (.slice (some ⟨w.heap.size, 0, none⟩) len len) w1 ∧
    Below w.heap.size w w1 ∧ RowIs w1 w.heap.size C 58 ∧ C.size = len * 7 := by
  obtain ⟨i, h1, h2⟩ := Option.map_eq_some_iff.1 info_CavTerm
  simp only [Prod.mk.injEq] at h2
  obtain ⟨hz, hsz, hby⟩ := h2
  have hr := run_make (P := Tryz.prog) w 36 58 i _ Tryz.underlying36 h1 hz .i64 .i64 (len : Int) (len : Int) (by omega) (by omega) (by rw [hby]; omega) (by omega)
  rw [Int.toNat_natCast, hsz] at hr
  exact ⟨_, _, hr, bAl (Below.refl _ _) _, RowIs.new _ _ _, size_madeCells _ _⟩
def FilledCavTerm (C : Array Value) (l : List CavTermT) (k : Nat) : Prop := ∀ i (h : i < l.length), i < k → C[i * 7]? = some (.string l[i].f0) ∧ C[i * 7 + 1]? = some (.int .i64 l[i].f1) ∧ C[i * 7 + 2]? = some (.string l[i].f2) ∧ C[i * 7 + 3]? = some (.int .i64 l[i].f3) ∧ C[i * 7 + 4]? = some (.int .i64 l[i].f4) ∧ C[i * 7 + 5]? = some (.string l[i].f5) ∧ C[i * 7 + 6]? = some (.string l[i].f6)
def setCavTerm (C : Array Value) (k : Nat) (x : CavTermT) : Array Value := (((((((C.setIfInBounds (k * 7) (.string x.f0)).setIfInBounds (k * 7 + 1) (.int .i64 x.f1)).setIfInBounds (k * 7 + 2) (.string x.f2)).setIfInBounds (k * 7 + 3) (.int .i64 x.f3)).setIfInBounds (k * 7 + 4) (.int .i64 x.f4)).setIfInBounds (k * 7 + 5) (.string x.f5)).setIfInBounds (k * 7 + 6) (.string x.f6))
theorem size_setCavTerm (C : Array Value) (k : Nat) (x : CavTermT) : (setCavTerm C k x).size = C.size := by simp [setCavTerm]
theorem FilledCavTerm.set {C : Array Value} {l : List CavTermT} {k : Nat} (h : FilledCavTerm C l k) (hk : k < l.length) (hC : C.size = l.length * 7) : FilledCavTerm (setCavTerm C k l[k]) l (k + 1) := by
  intro i hi hik
  unfold setCavTerm
  by_cases e : i = k
  · subst e
    have s0 : i * 7 < C.size := by omega
    have s1 : i * 7 + 1 < C.size := by omega
    have s2 : i * 7 + 2 < C.size := by omega
    have s3 : i * 7 + 3 < C.size := by omega
    have s4 : i * 7 + 4 < C.size := by omega
    have s5 : i * 7 + 5 < C.size := by omega
    have s6 : i * 7 + 6 < C.size := by omega
    simp [s0, s1, s2, s3, s4, s5, s6]
  · have := h i hi (by omega)
    simp only [Array.getElem?_setIfInBounds]
    repeat rw [if_neg (by omega)]
    exact this
theorem FilledCavTerm.row {w : World} {b : Nat} {C : Array Value} {T : TypeId} {l : List CavTermT} (h : FilledCavTerm C l l.length) (hr : RowIs w b C T) : CavTermRow w b 0 l :=
  ⟨hr.lt, fun i hi => by rw [Nat.zero_add, hr.cell]; exact (h i hi hi).1, fun i hi => by rw [Nat.zero_add, hr.cell]; exact (h i hi hi).2.1, fun i hi => by rw [Nat.zero_add, hr.cell]; exact (h i hi hi).2.2.1, fun i hi => by rw [Nat.zero_add, hr.cell]; exact (h i hi hi).2.2.2.1, fun i hi => by rw [Nat.zero_add, hr.cell]; exact (h i hi hi).2.2.2.2.1, fun i hi => by rw [Nat.zero_add, hr.cell]; exact (h i hi hi).2.2.2.2.2.1, fun i hi => by rw [Nat.zero_add, hr.cell]; exact (h i hi hi).2.2.2.2.2.2⟩
set_option maxRecDepth 100000 in
set_option maxHeartbeats 1000000 in
theorem toCavTermS_own (a : Option Addr) (len cap : Nat) (l : List CavTermT) (w : World) (hl : len ≤ 1048576) (hs : SlCavTerm w a len l) :
    Calls Tryz.prog 25 #[.slice a len cap] w fun e w' => e = .returned (.slice (some ⟨w.heap.size, 0, none⟩) len len) ∧ (∃ C, RowIs w' w.heap.size C 58 ∧ C.size = len * 7 ∧ CavTermRow w' w.heap.size 0 l) ∧ Below w.heap.size w w' := by
  obtain ⟨w1, C1, hrun, hb1, hr1, hC1⟩ := make_CavTerm len w hl
  have HS := hide hs
  have HB1 := hide hb1
  have HR1 := hide hr1
  clear hs hb1 hr1
  go_enter Tryz.func25, Tryz.ntmps25
  go_wp2
  clear hrun
  go_loopw [4] (fun i w' => ∃ (k : Nat) (C : Array Value), k ≤ len ∧ i = .int .i64 k ∧ Hid (Below w.heap.size w w') ∧ Hid (RowIs w' w.heap.size C 58) ∧ Hid (C.size = len * 7) ∧ Hid (FilledCavTerm C l k)) (fun i _ => len - (Go.RowKit.intOf i).toNat)
  case atStart => exact ⟨0, C1, Nat.zero_le _, rfl, HB1, HR1, hide hC1, hide (fun i _ h => absurd h (Nat.not_lt_zero _))⟩
  case round =>
    obtain ⟨k, C, hk, rfl, hb, hr, hC, hF⟩ := hrel
    by_cases hlt : k < len
    · obtain ⟨b, off, rfl, hrow⟩ := ((unhide HS).keep (unhide hb)).at hlt
      have hk' : k < l.length := by rw [← (unhide HS).1]; exact hlt
      have c0 := hrow.c0 k hk'
      have c1 := hrow.c1 k hk'
      have c2 := hrow.c2 k hk'
      have c3 := hrow.c3 k hk'
      have c4 := hrow.c4 k hk'
      have c5 := hrow.c5 k hk'
      have c6 := hrow.c6 k hk'
      have hF' := hide ((unhide hF).set hk' (by rw [unhide hC, (unhide HS).1]))
      clear hrow hC1
      generalize l[k] = A at c0 c1 c2 c3 c4 c5 c6 hF'
      go_wp2_with fail
      refine (toCavTerm_any A.f0 A.f1 A.f2 A.f3 A.f4 A.f5 A.f6 _).mono ?_
      rintro e w2 ⟨rfl, hb2⟩
      replace hr := hide ((unhide hr).keep hb2)
      replace hb := hide (bTr (unhide hb) hb2)
      have s9 : k * 7 + 6 < C.size := by rw [unhide hC]; omega
      obtain ⟨D0, d0⟩ : ∃ D, C[k * 7]? = some D := ⟨_, Array.getElem?_eq_getElem (by omega)⟩
      have g0 := (unhide hr).at d0
      have y0 := (unhide hr).froz (k * 7)
      clear d0
      obtain ⟨D1, d1⟩ : ∃ D, C[k * 7 + 1]? = some D := ⟨_, Array.getElem?_eq_getElem (by omega)⟩
      have g1 := (unhide hr).at d1
      have y1 := (unhide hr).froz (k * 7 + 1)
      clear d1
      obtain ⟨D2, d2⟩ : ∃ D, C[k * 7 + 2]? = some D := ⟨_, Array.getElem?_eq_getElem (by omega)⟩
      have g2 := (unhide hr).at d2
      have y2 := (unhide hr).froz (k * 7 + 2)
      clear d2
      obtain ⟨D3, d3⟩ : ∃ D, C[k * 7 + 3]? = some D := ⟨_, Array.getElem?_eq_getElem (by omega)⟩
      have g3 := (unhide hr).at d3
      have y3 := (unhide hr).froz (k * 7 + 3)
      clear d3
      obtain ⟨D4, d4⟩ : ∃ D, C[k * 7 + 4]? = some D := ⟨_, Array.getElem?_eq_getElem (by omega)⟩
      have g4 := (unhide hr).at d4
      have y4 := (unhide hr).froz (k * 7 + 4)
      clear d4
      obtain ⟨D5, d5⟩ : ∃ D, C[k * 7 + 5]? = some D := ⟨_, Array.getElem?_eq_getElem (by omega)⟩
      have g5 := (unhide hr).at d5
      have y5 := (unhide hr).froz (k * 7 + 5)
      clear d5
      obtain ⟨D6, d6⟩ : ∃ D, C[k * 7 + 6]? = some D := ⟨_, Array.getElem?_eq_getElem (by omega)⟩
      have g6 := (unhide hr).at d6
      have y6 := (unhide hr).froz (k * 7 + 6)
      clear d6
      clear c0 c1 c2 c3 c4 c5 c6 hb2
      go_wp2_with fail
      refine ⟨⟨k + 1, setCavTerm C k A, by omega, by go_num, hide ?_, hide ?_, hide (by rw [size_setCavTerm]; exact unhide hC), hF'⟩, by simp [Go.RowKit.intOf]; omega⟩
      · repeat refine bStCavTerm ?_ _ _ (Nat.le_refl _) _
        exact unhide hb
      · exact (((((((unhide hr).set _ _).set _ _).set _ _).set _ _).set _ _).set _ _).set _ _
    · go_wp2_with fail
      go_ret
      have e : k = l.length := by rw [← (unhide HS).1]; omega
      exact ⟨rfl, ⟨C, unhide hr, unhide hC, FilledCavTerm.row (by rw [← e]; exact unhide hF) (unhide hr)⟩, unhide hb⟩
set_option maxHeartbeats 1000000 in
theorem eqCavTermS_same (a1 a2 : Option Addr) (len1 c1 len2 c2 : Nat) (l : List CavTermT) (w : World) (h1 : SlCavTerm w a1 len1 l) (h2 : SlCavTerm w a2 len2 l) (hm : len1 ≤ maxLen) :
    Calls Tryz.prog 34 #[.slice a1 len1 c1, .slice a2 len2 c2] w fun e w' => e = .returned (.bool true) ∧ Below w.heap.size w w' := by
  unfold maxLen at hm
  obtain rfl : len1 = len2 := by rw [h1.1, h2.1]
  have H1 := hide h1
  have H2 := hide h2
  clear h1 h2
  go_enter Tryz.func34, Tryz.ntmps34
  go_wp2
  go_loopw [5] (fun i w' => ∃ k : Nat, k ≤ len1 ∧ i = .int .i64 k ∧ Below w.heap.size w w') (fun i _ => len1 - (Go.RowKit.intOf i).toNat)
  case atStart => exact ⟨0, Nat.zero_le _, rfl, Below.refl _ _⟩
  case round =>
    obtain ⟨k, hk, rfl, hbel⟩ := hrel
    by_cases hlt : k < len1
    · have g1 := hide ((unhide H1).keep hbel)
      have g2 := hide ((unhide H2).keep hbel)
      have hk' : k < l.length := by rw [← (unhide H1).1]; exact hlt
      obtain ⟨b, off, rfl, r1⟩ := (unhide g1).at hlt
      obtain ⟨b', off', rfl, r2⟩ := (unhide g2).at hlt
      have p0 := r1.c0 k hk'
      have p1 := r1.c1 k hk'
      have p2 := r1.c2 k hk'
      have p3 := r1.c3 k hk'
      have p4 := r1.c4 k hk'
      have p5 := r1.c5 k hk'
      have p6 := r1.c6 k hk'
      have q0 := r2.c0 k hk'
      have q1 := r2.c1 k hk'
      have q2 := r2.c2 k hk'
      have q3 := r2.c3 k hk'
      have q4 := r2.c4 k hk'
      have q5 := r2.c5 k hk'
      have q6 := r2.c6 k hk'
      have z1 := r1.z
      have z2 := r2.z
      clear r1 r2 g1 g2
      generalize l[k] = A at p0 p1 p2 p3 p4 p5 p6 q0 q1 q2 q3 q4 q5 q6
      have ne : Nonempty (Kept wr) := ⟨⟨wr, Below.refl _ _⟩⟩
      have x0 := kept_cell z1 p0
      have x1 := kept_cell z1 p1
      have x2 := kept_cell z1 p2
      have x3 := kept_cell z1 p3
      have x4 := kept_cell z1 p4
      have x5 := kept_cell z1 p5
      have x6 := kept_cell z1 p6
      have y0 := kept_cell z2 q0
      have y1 := kept_cell z2 q1
      have y2 := kept_cell z2 q2
      have y3 := kept_cell z2 q3
      have y4 := kept_cell z2 q4
      have y5 := kept_cell z2 q5
      have y6 := kept_cell z2 q6
      have i0 : (0 : Int) ≤ (k : Int) := by omega
      have i1 : (k : Int) < (len1 : Int) := by omega
      go_wp2_with fail
      refine wp_region_kept (by kernel_rfl) (by kernel_rfl) ?_
      repeat (first
        | go_big_quiet_step ((go_at_call 58; exact kept_call (eqCavTerm_same _ _ _ _ _ _ _ _)))
        | quiet_step ((go_at_call 58; exact kept_call (eqCavTerm_same _ _ _ _ _ _ _ _))))
      refine wpQuiet_nil ?_
      rintro _ ⟨q, rfl⟩
      clear ne x0 x1 x2 x3 x4 x5 x6 y0 y1 y2 y3 y4 y5 y6
      obtain ⟨w3, hb3⟩ := q
      go_wp2_with fail
      exact ⟨⟨k + 1, by omega, by go_num, bTr hbel hb3⟩, by simp [Go.RowKit.intOf]; omega⟩
    · go_wp2_with fail
      go_ret
      exact ⟨rfl, hbel⟩
def CavTermsV (l : List CavTermT) : List Value := l.flatMap encCavTerm
theorem CavTermsV_snoc (l : List CavTermT) (c : CavTermT) : CavTermsV (l ++ [c]) = CavTermsV l ++ encCavTerm c := by simp [CavTermsV]
theorem encCavTerm_one (c : CavTermT) : ∀ x ∈ encCavTerm c, x.oneCell' = true := by
  intro x hx
  simp [encCavTerm] at hx
  rcases hx with rfl | rfl | rfl | rfl | rfl | rfl | rfl <;> rfl
theorem CavTermsV_get : ∀ (l : List CavTermT) (i : Nat) (h : i < l.length) (j : Nat) (v : Value), (encCavTerm l[i])[j]? = some v → (CavTermsV l)[i * 7 + j]? = some v
  | [], i, h, _, _, _ => absurd h (Nat.not_lt_zero _)
  | c :: l, 0, _, j, v, hv => by
    have hj := (List.getElem?_eq_some_iff.1 hv).1
    have e : CavTermsV (c :: l) = encCavTerm c ++ CavTermsV l := by simp [CavTermsV]
    rw [e, List.getElem?_append_left (by simpa using hj)]
    simpa using hv
  | c :: l, i + 1, h, j, v, hv => by
    have e : CavTermsV (c :: l) = encCavTerm c ++ CavTermsV l := by simp [CavTermsV]
    have hl : (encCavTerm c).length = 7 := rfl
    rw [e, List.getElem?_append_right (by rw [hl]; omega), hl, show (i + 1) * 7 + j - 7 = i * 7 + j by omega]
    exact CavTermsV_get l i (by simpa using h) j v (by simpa using hv)
theorem own_CavTerm {w : World} {base : Nat} {v : Value} {l : List CavTermT} (h : w.ownsRow base 58 7 v l.length (CavTermsV l)) : ∃ a cap, v = .slice a l.length cap ∧ SlCavTerm w a l.length l := by
  rcases h.2 with ⟨rfl, e⟩ | ⟨g, cap, cur, rfl, _, hh, _, _, hsz, htk⟩
  · have : l = [] := List.length_eq_zero_iff.1 e
    subst this
    exact ⟨none, 0, rfl, rfl, .inl rfl⟩
  · have hr : RowIs w g cur 58 := hh
    have hc : ∀ i (hi : i < l.length) j u, (encCavTerm l[i])[j]? = some u → w.cell? ⟨g, 0 + i * 7 + j, none⟩ = some u := fun i hi j u hu => by
      have hu2 := CavTermsV_get l i hi j u hu
      rw [← htk, List.getElem?_take] at hu2
      rw [Nat.zero_add, hr.cell, ← Array.getElem?_toList]
      split at hu2
      · exact hu2
      · cases hu2
    exact ⟨_, _, rfl, rfl, .inr ⟨g, 0, rfl, hr.lt, fun i hi => hc i hi 0 _ rfl, fun i hi => hc i hi 1 _ rfl, fun i hi => hc i hi 2 _ rfl, fun i hi => hc i hi 3 _ rfl, fun i hi => hc i hi 4 _ rfl, fun i hi => hc i hi 5 _ rfl, fun i hi => hc i hi 6 _ rfl⟩⟩
theorem eqOwnCavTerm {w : World} {b1 b2 : Nat} {v1 v2 : Value} {l : List CavTermT} (h1 : w.ownsRow b1 58 7 v1 l.length (CavTermsV l)) (h2 : w.ownsRow b2 58 7 v2 l.length (CavTermsV l)) (hl : l.length ≤ 1000000) :
    Calls Tryz.prog 34 #[v1, v2] w fun e w' => e = .returned (.bool true) ∧ Below w.heap.size w w' := by
  obtain ⟨a1, c1, rfl, s1⟩ := own_CavTerm h1
  obtain ⟨a2, c2, rfl, s2⟩ := own_CavTerm h2
  exact eqCavTermS_same a1 a2 l.length c1 l.length c2 l w s1 s2 (by unfold maxLen; omega)
theorem listnCavTerm {α : Type} {l : List α} (h : l.length = 7) : ∃ a0 a1 a2 a3 a4 a5 a6, l = [a0, a1, a2, a3, a4, a5, a6] := by
  match l, h with
  | [a0, a1, a2, a3, a4, a5, a6], _ => exact ⟨a0, a1, a2, a3, a4, a5, a6, rfl⟩
section
variable {H : Type} {enc : TypeId × Value → H} {w : World} {base : Nat} {sp : Nat → Bool} {held : Bool}
theorem addr_CavTerm (b off k : Nat) : (⟨b, off, none⟩ : Addr).add k = ⟨b, off + k, none⟩ := by
  unfold Addr.add; split <;> simp_all
set_option maxRecDepth 100000 in
theorem read_CavTerm {n : Nat} {cs : List Value} {x : DataW H × List MemPlace} (h : DataW.trod enc Tryz.prog w base sp held n 78 cs = some x) : ∃ A : CavTermT, cs = [.string A.f0, .int .i64 A.f1, .string A.f2, .int .i64 A.f3, .int .i64 A.f4, .string A.f5, .string A.f6] ∧ A.Ok := by
  obtain ⟨xs, m, rfl, _, hlen, hx, hf⟩ := DataW.trod_struct Tryz.underlying78 h
  have hc : Tryz.prog.cellsOf 78 = 7 := by kernel_rfl
  have k9 : Tryz.prog.cellsOf 9 = 1 := by kernel_rfl
  have k3 : Tryz.prog.cellsOf 3 = 1 := by kernel_rfl
  have kA : Tryz.prog.cellsOf 27 = 4 := by kernel_rfl
  obtain ⟨c0, c1, c2, c3, c4, c5, c6, rfl⟩ := listnCavTerm (hlen.trans hc)
  obtain ⟨x0, x1, x2, x3, rfl⟩ := list4 hx
  have h0 : DataW.trod enc Tryz.prog w base sp held m 9 [c0] = some x0 := by have := hf 0 _ rfl; simpa [k9, k3, kA] using this
  have h1 : DataW.trod enc Tryz.prog w base sp held m 3 [c1] = some x1 := by have := hf 1 _ rfl; simpa [k9, k3, kA] using this
  have h2 : DataW.trod enc Tryz.prog w base sp held m 9 [c2] = some x2 := by have := hf 2 _ rfl; simpa [k9, k3, kA] using this
  have h3 : DataW.trod enc Tryz.prog w base sp held m 27 [c3, c4, c5, c6] = some x3 := by have := hf 3 _ rfl; simpa [k9, k3, kA] using this
  obtain ⟨y0, e0, _, ok0⟩ := DataW.trod_string Tryz.underlying9 h0
  obtain ⟨y1, e1, _, ok1⟩ := DataW.trod_int Tryz.underlying3 h1
  obtain ⟨y2, e2, _, ok2⟩ := DataW.trod_string Tryz.underlying9 h2
  obtain ⟨B, e3, okB⟩ := read_atom h3
  simp at e0 e1 e2 e3
  subst e0 e1 e2
  obtain ⟨rfl, rfl, rfl, rfl⟩ := e3
  exact ⟨⟨y0, y1, y2, B.x, B.n, B.t, B.y⟩, rfl, ⟨ok0, ok1, ok2, okB.n8, okB.n9, okB.t9, okB.y9⟩⟩
set_option maxRecDepth 100000 in
theorem reads_CavTerm {n len cap : Nat} {a : Option Addr} {x : DataW H × List MemPlace} (h : DataW.trod enc Tryz.prog w base sp held n 23 [.slice a len cap] = some x) :
    ∃ l : List CavTermT, SlCavTerm w a len l ∧ (∀ q ∈ l, CavTermT.Ok q) ∧ len ≤ maxLen := by
  have hc : Tryz.prog.cellsOf 78 = 7 := by kernel_rfl
  rcases Go.Deep.open_slice Tryz.underlying23 h with ⟨hcs, _⟩ | ⟨a', len', cap', m, n', D, Pl, hcs, _, hl, hm, hmm, _, hel⟩
  · simp at hcs
    obtain ⟨rfl, rfl, rfl⟩ := hcs
    exact ⟨[], ⟨rfl, .inl rfl⟩, by simp, Nat.zero_le _⟩
  · simp at hcs
    obtain ⟨rfl, rfl, rfl⟩ := hcs
    have hlm : len ≤ m := by rw [hmm]; split <;> omega
    by_cases h0 : len = 0
    · subst h0; exact ⟨[], ⟨rfl, .inl rfl⟩, by simp, Nat.zero_le _⟩
    have hspot : a'.spot = none := by
      obtain ⟨cs', h1, h2⟩ := hel 0 (by omega)
      rw [hc] at h1
      obtain ⟨A, rfl, _⟩ := read_CavTerm h2
      have e0 := (World.cells?_some h1).2.2 0 (by omega)
      simp [Addr.add] at e0
      exact World.cell?_spot e0
    obtain ⟨b, off, spot⟩ := a'
    simp only at hspot
    subst hspot
    have hA : ∀ i, i < len → ∃ A : CavTermT, A.Ok ∧ (w.cell? ⟨b, off + i * 7, none⟩ = some (.string A.f0) ∧ w.cell? ⟨b, off + i * 7 + 1, none⟩ = some (.int .i64 A.f1) ∧ w.cell? ⟨b, off + i * 7 + 2, none⟩ = some (.string A.f2) ∧ w.cell? ⟨b, off + i * 7 + 3, none⟩ = some (.int .i64 A.f3) ∧ w.cell? ⟨b, off + i * 7 + 4, none⟩ = some (.int .i64 A.f4) ∧ w.cell? ⟨b, off + i * 7 + 5, none⟩ = some (.string A.f5) ∧ w.cell? ⟨b, off + i * 7 + 6, none⟩ = some (.string A.f6)) ∧ b < w.heap.size := by
      intro i hi
      obtain ⟨cs', h1, h2⟩ := hel i (by omega)
      rw [hc, addr_CavTerm] at h1
      obtain ⟨A, rfl, hok⟩ := read_CavTerm h2
      have h3 := (World.cells?_some h1).2.2
      have e0 := h3 0 (by omega)
      have e1 := h3 1 (by omega)
      have e2 := h3 2 (by omega)
      have e3 := h3 3 (by omega)
      have e4 := h3 4 (by omega)
      have e5 := h3 5 (by omega)
      have e6 := h3 6 (by omega)
      rw [addr_CavTerm] at e0 e1 e2 e3 e4 e5 e6
      exact ⟨A, hok, ⟨e0, e1, e2, e3, e4, e5, e6⟩, World.block_lt_of_cell? w ⟨b, off + i * 7 + 0, none⟩ e0⟩
    obtain ⟨f, hf⟩ := @Go.Deep.choose_lt CavTermT ⟨⟨⟨#[]⟩, 0, ⟨#[]⟩, 0, 0, ⟨#[]⟩, ⟨#[]⟩⟩⟩ len (fun i A => A.Ok ∧ (w.cell? ⟨b, off + i * 7, none⟩ = some (.string A.f0) ∧ w.cell? ⟨b, off + i * 7 + 1, none⟩ = some (.int .i64 A.f1) ∧ w.cell? ⟨b, off + i * 7 + 2, none⟩ = some (.string A.f2) ∧ w.cell? ⟨b, off + i * 7 + 3, none⟩ = some (.int .i64 A.f3) ∧ w.cell? ⟨b, off + i * 7 + 4, none⟩ = some (.int .i64 A.f4) ∧ w.cell? ⟨b, off + i * 7 + 5, none⟩ = some (.string A.f5) ∧ w.cell? ⟨b, off + i * 7 + 6, none⟩ = some (.string A.f6)) ∧ b < w.heap.size) hA
    refine ⟨(List.range len).map f, ⟨by simp, .inr ⟨b, off, rfl, (hf 0 (by omega)).2.2, fun i hi => ?_, fun i hi => ?_, fun i hi => ?_, fun i hi => ?_, fun i hi => ?_, fun i hi => ?_, fun i hi => ?_⟩⟩, ?_, by omega⟩
    · simp at hi
      have := (hf i hi).2.1.1
      simpa using this
    · simp at hi
      have := (hf i hi).2.1.2.1
      simpa using this
    · simp at hi
      have := (hf i hi).2.1.2.2.1
      simpa using this
    · simp at hi
      have := (hf i hi).2.1.2.2.2.1
      simpa using this
    · simp at hi
      have := (hf i hi).2.1.2.2.2.2.1
      simpa using this
    · simp at hi
      have := (hf i hi).2.1.2.2.2.2.2.1
      simpa using this
    · simp at hi
      have := (hf i hi).2.1.2.2.2.2.2.2
      simpa using this
    · intro q hq
      simp at hq
      obtain ⟨i, hi, rfl⟩ := hq
      exact (hf i hi).1
set_option maxRecDepth 100000 in
/-- A slice that came in. -/
theorem read_CavTerms {r : Reach} {b0 : Nat} {v0 : Value} {d : DataW H} {p : List MemPlace} (hv : Value.okWide Tryz.prog w r b0 23 v0) (h : DataW.Trod enc Tryz.prog w base sp held 23 v0 d p) :
    ∃ (l : List CavTermT) (a : Option Addr) (len cap : Nat), v0 = .slice a len cap ∧ SlCavTerm w a len l ∧ (∀ q ∈ l, CavTermT.Ok q) ∧ len ≤ maxLen := by
  obtain ⟨fuel, hf0⟩ := h
  obtain ⟨a, len, cap, rfl⟩ := okWide_slice Tryz.underlying23 hv
  obtain ⟨l, h1, h2, h3⟩ := reads_CavTerm hf0
  exact ⟨l, a, len, cap, rfl, h1, h2, h3⟩
end
end Go.Proofs.YtdflnjjomljgmaaGreatDoor.V
