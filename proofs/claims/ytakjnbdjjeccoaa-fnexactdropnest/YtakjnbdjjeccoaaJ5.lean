/- GNest, GGro, one behind the other. -/
import Derived.Test.YtakjnbdjjeccoaaJ4
import Derived.ProofKit
import Derived.Deep.Slices
import Derived.Laws.MakeOwn
import Derived.OwnWalk
import Derived.Test.YtakjnbdjjeccoaaJ0
import Derived.Sort.Grow
/- Slices of impl.Nest: in memory, read, sized, copied, held against each other. -/
namespace Go.Proofs.Ytakjnbdjjeccoaa
open Go.ChangeShapes Go.WideShapes Go.RowKit

structure NestT where
  f0 : ByteArray
  f1 : ByteArray
structure NestT.Ok (x : NestT) : Prop where
  o0 : x.f0.size ≤ maxLen
  o1 : x.f1.size ≤ maxLen
def encNest (x : NestT) : List Value := [.string x.f0, .string x.f1]
structure NestRow (w : World) (b off : Nat) (l : List NestT) : Prop where
  z : b < w.heap.size
  c0 : ∀ i (h : i < l.length), w.cell? ⟨b, off + i * 2, none⟩ = some (.string l[i].f0)
  c1 : ∀ i (h : i < l.length), w.cell? ⟨b, off + i * 2 + 1, none⟩ = some (.string l[i].f1)
theorem NestRow.keep {w w1 : World} {b off : Nat} {l : List NestT} (h : NestRow w b off l) (hb : Below w.heap.size w w1) : NestRow w1 b off l :=
  ⟨Nat.lt_of_lt_of_le h.z hb.size, fun i hi => cellB hb h.z (h.c0 i hi), fun i hi => cellB hb h.z (h.c1 i hi)⟩
def SlNest (w : World) (a : Option Addr) (len : Nat) (l : List NestT) : Prop := len = l.length ∧ (l = [] ∨ ∃ b off, a = some ⟨b, off, none⟩ ∧ NestRow w b off l)
theorem SlNest.keep {w w1 : World} {a : Option Addr} {len : Nat} {l : List NestT} (h : SlNest w a len l) (hb : Below w.heap.size w w1) : SlNest w1 a len l :=
  ⟨h.1, by
    rcases h.2 with e | ⟨b, off, e, r⟩
    · exact .inl e
    · exact .inr ⟨b, off, e, r.keep hb⟩⟩
theorem SlNest.at {w : World} {a : Option Addr} {len : Nat} {l : List NestT} (h : SlNest w a len l) {k : Nat} (hk : k < len) : ∃ b off, a = some ⟨b, off, none⟩ ∧ NestRow w b off l := by
  rcases h.2 with e | e
  · rw [h.1, e] at hk; simp at hk
  · exact e
theorem bStNest {w w' : World} (h : Below w.heap.size w w') (b o : Nat) (hb : w.heap.size ≤ b) (v : Value) : Below w.heap.size w (w'.setCell ⟨b, o, none⟩ v) := h.setCell hb v
set_option maxHeartbeats 400000 in
theorem toNest_any (f0 : ByteArray) (f1 : ByteArray) (w : World) :
    Calls Try.prog 26 #[.agg #[.string f0, .string f1]] w fun e w' => e = .returned (.agg #[.string f0, .string f1]) ∧ Below w.heap.size w w' := by
  go_enter Try.func26, Try.ntmps26
  go_wp2
  exact bodyPost_ret (v := .agg #[.string f0, .string f1]) (by simp [results, Try.results26, go_sem]) rfl ⟨rfl, bAl (bAl (bAl (Below.refl _ _) _) _) _⟩
set_option maxHeartbeats 400000 in
theorem eqNest_same (f0 : ByteArray) (f1 : ByteArray) (w : World) :
    Calls Try.prog 49 #[.agg #[.string f0, .string f1], .agg #[.string f0, .string f1]] w fun e w' => e = .returned (.bool true) ∧ Below w.heap.size w w' := by
  go_enter Try.func49, Try.ntmps49
  go_wp2
  go_ret
  exact ⟨rfl, bAl (bAl (Below.refl _ _) _) _⟩
set_option maxHeartbeats 400000 in
theorem szNest_any (f0 : ByteArray) (f1 : ByteArray) (l : Int) (w : World) (h0 : 0 ≤ l) (h1 : l ≤ 1048576) (s0 : f0.size ≤ maxLen) (s1 : f1.size ≤ maxLen) :
    Calls Try.prog 23 #[.agg #[.string f0, .string f1], .int .i64 l] w fun e w' => (∃ m : Int, -1 ≤ m ∧ m ≤ l ∧ e = .returned (.int .i64 m)) ∧ Below w.heap.size w w' := by
  unfold maxLen at s0 s1
  go_enter Try.func23, Try.ntmps23
  go_wp2
  all_goals go_ret
  all_goals exact ⟨⟨_, by omega, by omega, rfl⟩, bAl (Below.refl _ _) _⟩
set_option maxHeartbeats 400000 in
theorem szNestS_any (a : Option Addr) (len cap : Nat) (l : List NestT) (left : Int) (w : World) (h0 : 0 ≤ left) (h1 : left ≤ 1048576) (hl : len ≤ maxLen) (hs : SlNest w a len l) (hok : ∀ q ∈ l, NestT.Ok q) :
    Calls Try.prog 11 #[.slice a len cap, .int .i64 left] w fun e w' => (∃ m : Int, -1 ≤ m ∧ m ≤ left ∧ (0 ≤ m → (len : Int) ≤ left) ∧ e = .returned (.int .i64 m)) ∧ Below w.heap.size w w' := by
  unfold maxLen at hl
  by_cases hlen : left < (len : Int)
  · clear hs hok
    go_enter Try.func11, Try.ntmps11
    go_wp2
    go_ret
    exact ⟨⟨-1, by omega, by omega, by omega, rfl⟩, Below.refl _ _⟩
  have d1 : decide (left - (len : Int) < 0) = false := by simp; omega
  have HS := hide hs
  clear hs
  go_enter Try.func11, Try.ntmps11
  go_wp2
  go_loopw [1, 5] (fun m i w' => ∃ (k : Nat) (q : Int), k ≤ len ∧ 0 ≤ q ∧ q ≤ left ∧ i = .int .i64 k ∧ m = .int .i64 q ∧ Below w.heap.size w w') (fun _ i _ => len - (Go.RowKit.intOf i).toNat)
  case atStart => exact ⟨0, _, Nat.zero_le _, by omega, by omega, rfl, rfl, Below.refl _ _⟩
  case round =>
    obtain ⟨k, q, hk, hq1, hq2, rfl, rfl, hbel⟩ := hrel
    by_cases hlt : k < len
    · obtain ⟨b, off, rfl, hrow⟩ := ((unhide HS).keep hbel).at hlt
      have hk' : k < l.length := by rw [← (unhide HS).1]; exact hlt
      have c0 := hrow.c0 k hk'
      have c1 := hrow.c1 k hk'
      have ho := hok _ (List.getElem_mem hk')
      have hz := hide (fun q w h0 h1 => szNest_any (l[k]).f0 (l[k]).f1 q w h0 h1 ho.o0 ho.o1)
      clear hrow ho hok
      generalize l[k] = A at hz c0 c1
      go_wp2_with fail
      refine (unhide hz _ _ (by omega) (by omega)).mono ?_
      rintro e w1 ⟨⟨m, hm1, hm2, rfl⟩, hb1⟩
      by_cases hm : m < 0
      · go_wp2_with fail
        go_ret
        exact ⟨⟨-1, by omega, by omega, by omega, rfl⟩, bTr hbel hb1⟩
      · go_wp2_with fail
        exact ⟨⟨k + 1, m, by omega, by omega, by omega, by go_num, rfl, bTr hbel hb1⟩, by simp [Go.RowKit.intOf]; omega⟩
    · go_wp2_with fail
      go_ret
      exact ⟨⟨q, by omega, by omega, by omega, rfl⟩, hbel⟩
theorem info_Nest : (Try.prog.info? 42).map (fun i => (i.zero, i.size, i.bytes)) = some (some (.agg #[.string ByteArray.empty, .string ByteArray.empty]), 2, 32) := by kernel_rfl
theorem make_Nest (len : Nat) (w : World) (h : len ≤ 1048576) : ∃ w1 C, (Instr.makeSlice 25 (.int .i64 (len : Int)) (.int .i64 (len : Int))).run Try.prog w = .ok (.slice (some ⟨w.heap.size, 0, none⟩) len len) w1 ∧
    Below w.heap.size w w1 ∧ RowIs w1 w.heap.size C 42 ∧ C.size = len * 2 := by
  obtain ⟨i, h1, h2⟩ := Option.map_eq_some_iff.1 info_Nest
  simp only [Prod.mk.injEq] at h2
  obtain ⟨hz, hsz, hby⟩ := h2
  have hr := run_make (P := Try.prog) w 25 42 i _ Try.underlying25 h1 hz .i64 .i64 (len : Int) (len : Int) (by omega) (by omega) (by rw [hby]; omega) (by omega)
  rw [Int.toNat_natCast, hsz] at hr
  exact ⟨_, _, hr, bAl (Below.refl _ _) _, RowIs.new _ _ _, size_madeCells _ _⟩
def FilledNest (C : Array Value) (l : List NestT) (k : Nat) : Prop := ∀ i (h : i < l.length), i < k → C[i * 2]? = some (.string l[i].f0) ∧ C[i * 2 + 1]? = some (.string l[i].f1)
def setNest (C : Array Value) (k : Nat) (x : NestT) : Array Value := ((C.setIfInBounds (k * 2) (.string x.f0)).setIfInBounds (k * 2 + 1) (.string x.f1))
theorem size_setNest (C : Array Value) (k : Nat) (x : NestT) : (setNest C k x).size = C.size := by simp [setNest]
theorem FilledNest.set {C : Array Value} {l : List NestT} {k : Nat} (h : FilledNest C l k) (hk : k < l.length) (hC : C.size = l.length * 2) : FilledNest (setNest C k l[k]) l (k + 1) := by
  intro i hi hik
  unfold setNest
  by_cases e : i = k
  · subst e
    have s0 : i * 2 < C.size := by omega
    have s1 : i * 2 + 1 < C.size := by omega
    simp [s0, s1]
  · have := h i hi (by omega)
    simp only [Array.getElem?_setIfInBounds]
    repeat rw [if_neg (by omega)]
    exact this
theorem FilledNest.row {w : World} {b : Nat} {C : Array Value} {T : TypeId} {l : List NestT} (h : FilledNest C l l.length) (hr : RowIs w b C T) : NestRow w b 0 l :=
  ⟨hr.lt, fun i hi => by rw [Nat.zero_add, hr.cell]; exact (h i hi hi).1, fun i hi => by rw [Nat.zero_add, hr.cell]; exact (h i hi hi).2⟩
set_option maxRecDepth 100000 in
set_option maxHeartbeats 1000000 in
theorem toNestS_own (a : Option Addr) (len cap : Nat) (l : List NestT) (w : World) (hl : len ≤ 1048576) (hs : SlNest w a len l) :
    Calls Try.prog 13 #[.slice a len cap] w fun e w' => e = .returned (.slice (some ⟨w.heap.size, 0, none⟩) len len) ∧ (∃ C, RowIs w' w.heap.size C 42 ∧ C.size = len * 2 ∧ NestRow w' w.heap.size 0 l) ∧ Below w.heap.size w w' := by
  obtain ⟨w1, C1, hrun, hb1, hr1, hC1⟩ := make_Nest len w hl
  have HS := hide hs
  have HB1 := hide hb1
  have HR1 := hide hr1
  clear hs hb1 hr1
  go_enter Try.func13, Try.ntmps13
  go_wp2
  clear hrun
  go_loopw [4] (fun i w' => ∃ (k : Nat) (C : Array Value), k ≤ len ∧ i = .int .i64 k ∧ Hid (Below w.heap.size w w') ∧ Hid (RowIs w' w.heap.size C 42) ∧ Hid (C.size = len * 2) ∧ Hid (FilledNest C l k)) (fun i _ => len - (Go.RowKit.intOf i).toNat)
  case atStart => exact ⟨0, C1, Nat.zero_le _, rfl, HB1, HR1, hide hC1, hide (fun i _ h => absurd h (Nat.not_lt_zero _))⟩
  case round =>
    obtain ⟨k, C, hk, rfl, hb, hr, hC, hF⟩ := hrel
    by_cases hlt : k < len
    · obtain ⟨b, off, rfl, hrow⟩ := ((unhide HS).keep (unhide hb)).at hlt
      have hk' : k < l.length := by rw [← (unhide HS).1]; exact hlt
      have c0 := hrow.c0 k hk'
      have c1 := hrow.c1 k hk'
      have hF' := hide ((unhide hF).set hk' (by rw [unhide hC, (unhide HS).1]))
      clear hrow hC1
      generalize l[k] = A at c0 c1 hF'
      go_wp2_with fail
      refine (toNest_any A.f0 A.f1 _).mono ?_
      rintro e w2 ⟨rfl, hb2⟩
      replace hr := hide ((unhide hr).keep hb2)
      replace hb := hide (bTr (unhide hb) hb2)
      have s9 : k * 2 + 1 < C.size := by rw [unhide hC]; omega
      obtain ⟨D0, d0⟩ : ∃ D, C[k * 2]? = some D := ⟨_, Array.getElem?_eq_getElem (by omega)⟩
      have g0 := (unhide hr).at d0
      have y0 := (unhide hr).froz (k * 2)
      clear d0
      obtain ⟨D1, d1⟩ : ∃ D, C[k * 2 + 1]? = some D := ⟨_, Array.getElem?_eq_getElem (by omega)⟩
      have g1 := (unhide hr).at d1
      have y1 := (unhide hr).froz (k * 2 + 1)
      clear d1
      clear c0 c1 hb2
      go_wp2_with fail
      refine ⟨⟨k + 1, setNest C k A, by omega, by go_num, hide ?_, hide ?_, hide (by rw [size_setNest]; exact unhide hC), hF'⟩, by simp [Go.RowKit.intOf]; omega⟩
      · repeat refine bStNest ?_ _ _ (Nat.le_refl _) _
        exact unhide hb
      · exact ((unhide hr).set _ _).set _ _
    · go_wp2_with fail
      go_ret
      have e : k = l.length := by rw [← (unhide HS).1]; omega
      exact ⟨rfl, ⟨C, unhide hr, unhide hC, FilledNest.row (by rw [← e]; exact unhide hF) (unhide hr)⟩, unhide hb⟩
set_option maxHeartbeats 1000000 in
theorem eqNestS_same (a1 a2 : Option Addr) (len1 c1 len2 c2 : Nat) (l : List NestT) (w : World) (h1 : SlNest w a1 len1 l) (h2 : SlNest w a2 len2 l) (hm : len1 ≤ maxLen) :
    Calls Try.prog 15 #[.slice a1 len1 c1, .slice a2 len2 c2] w fun e w' => e = .returned (.bool true) ∧ Below w.heap.size w w' := by
  unfold maxLen at hm
  obtain rfl : len1 = len2 := by rw [h1.1, h2.1]
  have H1 := hide h1
  have H2 := hide h2
  clear h1 h2
  go_enter Try.func15, Try.ntmps15
  go_wp2
  go_loopw [5] (fun i w' => ∃ k : Nat, k ≤ len1 ∧ i = .int .i64 k ∧ Below w.heap.size w w') (fun i _ => len1 - (Go.RowKit.intOf i).toNat)
  case atStart => exact ⟨0, Nat.zero_le _, rfl, Below.refl _ _⟩
  case round =>
    obtain ⟨k, hk, rfl, hbel⟩ := hrel
    by_cases hlt : k < len1
    · have g1 := hide ((unhide H1).keep hbel)
      have g2 := hide ((unhide H2).keep hbel)
      have hk' : k < l.length := by rw [← (unhide H1).1]; exact hlt
      obtain ⟨b, off, rfl, r1⟩ := (unhide g1).at hlt
      obtain ⟨b', off', rfl, r2⟩ := (unhide g2).at hlt
      have p0 := r1.c0 k hk'
      have p1 := r1.c1 k hk'
      have q0 := r2.c0 k hk'
      have q1 := r2.c1 k hk'
      have z1 := r1.z
      have z2 := r2.z
      clear r1 r2 g1 g2
      generalize l[k] = A at p0 p1 q0 q1
      have ne : Nonempty (Kept wr) := ⟨⟨wr, Below.refl _ _⟩⟩
      have x0 := kept_cell z1 p0
      have x1 := kept_cell z1 p1
      have y0 := kept_cell z2 q0
      have y1 := kept_cell z2 q1
      have i0 : (0 : Int) ≤ (k : Int) := by omega
      have i1 : (k : Int) < (len1 : Int) := by omega
      go_wp2_with fail
      refine wp_region_kept (by kernel_rfl) (by kernel_rfl) ?_
      repeat (first
        | go_big_quiet_step ((go_at_call 49; exact kept_call (eqNest_same _ _ _)))
        | quiet_step ((go_at_call 49; exact kept_call (eqNest_same _ _ _))))
      refine wpQuiet_nil ?_
      rintro _ ⟨q, rfl⟩
      clear ne x0 x1 y0 y1
      obtain ⟨w3, hb3⟩ := q
      go_wp2_with fail
      exact ⟨⟨k + 1, by omega, by go_num, bTr hbel hb3⟩, by simp [Go.RowKit.intOf]; omega⟩
    · go_wp2_with fail
      go_ret
      exact ⟨rfl, hbel⟩
def NestsV (l : List NestT) : List Value := l.flatMap encNest
theorem NestsV_snoc (l : List NestT) (c : NestT) : NestsV (l ++ [c]) = NestsV l ++ encNest c := by simp [NestsV]
theorem encNest_one (c : NestT) : ∀ x ∈ encNest c, x.oneCell' = true := by
  intro x hx
  simp [encNest] at hx
  rcases hx with rfl | rfl <;> rfl
theorem NestsV_get : ∀ (l : List NestT) (i : Nat) (h : i < l.length) (j : Nat) (v : Value), (encNest l[i])[j]? = some v → (NestsV l)[i * 2 + j]? = some v
  | [], i, h, _, _, _ => absurd h (Nat.not_lt_zero _)
  | c :: l, 0, _, j, v, hv => by
    have hj := (List.getElem?_eq_some_iff.1 hv).1
    have e : NestsV (c :: l) = encNest c ++ NestsV l := by simp [NestsV]
    rw [e, List.getElem?_append_left (by simpa using hj)]
    simpa using hv
  | c :: l, i + 1, h, j, v, hv => by
    have e : NestsV (c :: l) = encNest c ++ NestsV l := by simp [NestsV]
    have hl : (encNest c).length = 2 := rfl
    rw [e, List.getElem?_append_right (by rw [hl]; omega), hl, show (i + 1) * 2 + j - 2 = i * 2 + j by omega]
    exact NestsV_get l i (by simpa using h) j v (by simpa using hv)
theorem own_Nest {w : World} {base : Nat} {v : Value} {l : List NestT} (h : w.ownsRow base 42 2 v l.length (NestsV l)) : ∃ a cap, v = .slice a l.length cap ∧ SlNest w a l.length l := by
  rcases h.2 with ⟨rfl, e⟩ | ⟨g, cap, cur, rfl, _, hh, _, _, hsz, htk⟩
  · have : l = [] := List.length_eq_zero_iff.1 e
    subst this
    exact ⟨none, 0, rfl, rfl, .inl rfl⟩
  · have hr : RowIs w g cur 42 := hh
    have hc : ∀ i (hi : i < l.length) j u, (encNest l[i])[j]? = some u → w.cell? ⟨g, 0 + i * 2 + j, none⟩ = some u := fun i hi j u hu => by
      have hu2 := NestsV_get l i hi j u hu
      rw [← htk, List.getElem?_take] at hu2
      rw [Nat.zero_add, hr.cell, ← Array.getElem?_toList]
      split at hu2
      · exact hu2
      · cases hu2
    exact ⟨_, _, rfl, rfl, .inr ⟨g, 0, rfl, hr.lt, fun i hi => hc i hi 0 _ rfl, fun i hi => hc i hi 1 _ rfl⟩⟩
theorem eqOwnNest {w : World} {b1 b2 : Nat} {v1 v2 : Value} {l : List NestT} (h1 : w.ownsRow b1 42 2 v1 l.length (NestsV l)) (h2 : w.ownsRow b2 42 2 v2 l.length (NestsV l)) (hl : l.length ≤ 1000000) :
    Calls Try.prog 15 #[v1, v2] w fun e w' => e = .returned (.bool true) ∧ Below w.heap.size w w' := by
  obtain ⟨a1, c1, rfl, s1⟩ := own_Nest h1
  obtain ⟨a2, c2, rfl, s2⟩ := own_Nest h2
  exact eqNestS_same a1 a2 l.length c1 l.length c2 l w s1 s2 (by unfold maxLen; omega)
theorem listnNest {α : Type} {l : List α} (h : l.length = 2) : ∃ a0 a1, l = [a0, a1] := by
  match l, h with
  | [a0, a1], _ => exact ⟨a0, a1, rfl⟩
section
variable {H : Type} {enc : TypeId × Value → H} {w : World} {base : Nat} {sp : Nat → Bool} {held : Bool}
theorem addr_Nest (b off k : Nat) : (⟨b, off, none⟩ : Addr).add k = ⟨b, off + k, none⟩ := by
  unfold Addr.add; split <;> simp_all
set_option maxRecDepth 100000 in
theorem read_Nest {n : Nat} {cs : List Value} {x : DataW H × List MemPlace} (h : DataW.trod enc Try.prog w base sp held n 36 cs = some x) : ∃ A : NestT, cs = [.string A.f0, .string A.f1] ∧ A.Ok := by
  obtain ⟨xs, m, rfl, _, hlen, hx, hf⟩ := DataW.trod_struct Try.underlying36 h
  have hc : Try.prog.cellsOf 36 = 2 := by kernel_rfl
  have k9 : Try.prog.cellsOf 9 = 1 := by kernel_rfl
  have k3 : Try.prog.cellsOf 3 = 1 := by kernel_rfl
  obtain ⟨c0, c1, rfl⟩ := listnNest (hlen.trans hc)
  obtain ⟨x0, x1, rfl⟩ := listnNest hx
  have h0 : DataW.trod enc Try.prog w base sp held m 9 [c0] = some x0 := by have := hf 0 _ rfl; simpa [k9, k3] using this
  obtain ⟨y0, e0, _, ok0⟩ := DataW.trod_string Try.underlying9 h0
  have h1 : DataW.trod enc Try.prog w base sp held m 9 [c1] = some x1 := by have := hf 1 _ rfl; simpa [k9, k3] using this
  obtain ⟨y1, e1, _, ok1⟩ := DataW.trod_string Try.underlying9 h1
  simp at e0 e1
  subst e0 e1
  exact ⟨⟨y0, y1⟩, rfl, ok0, ok1⟩
set_option maxRecDepth 100000 in
theorem reads_Nest {n len cap : Nat} {a : Option Addr} {x : DataW H × List MemPlace} (h : DataW.trod enc Try.prog w base sp held n 22 [.slice a len cap] = some x) :
    ∃ l : List NestT, SlNest w a len l ∧ (∀ q ∈ l, NestT.Ok q) ∧ len ≤ maxLen := by
  have hc : Try.prog.cellsOf 36 = 2 := by kernel_rfl
  rcases Go.Deep.open_slice Try.underlying22 h with ⟨hcs, _⟩ | ⟨a', len', cap', m, n', D, Pl, hcs, _, hl, hm, hmm, _, hel⟩
  · simp at hcs
    obtain ⟨rfl, rfl, rfl⟩ := hcs
    exact ⟨[], ⟨rfl, .inl rfl⟩, by simp, Nat.zero_le _⟩
  · simp at hcs
    obtain ⟨rfl, rfl, rfl⟩ := hcs
    have hlm : len ≤ m := by rw [hmm]; split <;> omega
    by_cases h0 : len = 0
    · subst h0; exact ⟨[], ⟨rfl, .inl rfl⟩, by simp, Nat.zero_le _⟩
    have hspot : a'.spot = none := by
      obtain ⟨cs', h1, h2⟩ := hel 0 (by omega)
      rw [hc] at h1
      obtain ⟨A, rfl, _⟩ := read_Nest h2
      have e0 := (World.cells?_some h1).2.2 0 (by omega)
      simp [Addr.add] at e0
      exact World.cell?_spot e0
    obtain ⟨b, off, spot⟩ := a'
    simp only at hspot
    subst hspot
    have hA : ∀ i, i < len → ∃ A : NestT, A.Ok ∧ (w.cell? ⟨b, off + i * 2, none⟩ = some (.string A.f0) ∧ w.cell? ⟨b, off + i * 2 + 1, none⟩ = some (.string A.f1)) ∧ b < w.heap.size := by
      intro i hi
      obtain ⟨cs', h1, h2⟩ := hel i (by omega)
      rw [hc, addr_Nest] at h1
      obtain ⟨A, rfl, hok⟩ := read_Nest h2
      have h3 := (World.cells?_some h1).2.2
      have e0 := h3 0 (by omega)
      have e1 := h3 1 (by omega)
      rw [addr_Nest] at e0 e1
      exact ⟨A, hok, ⟨e0, e1⟩, World.block_lt_of_cell? w ⟨b, off + i * 2 + 0, none⟩ e0⟩
    obtain ⟨f, hf⟩ := @Go.Deep.choose_lt NestT ⟨⟨⟨#[]⟩, ⟨#[]⟩⟩⟩ len (fun i A => A.Ok ∧ (w.cell? ⟨b, off + i * 2, none⟩ = some (.string A.f0) ∧ w.cell? ⟨b, off + i * 2 + 1, none⟩ = some (.string A.f1)) ∧ b < w.heap.size) hA
    refine ⟨(List.range len).map f, ⟨by simp, .inr ⟨b, off, rfl, (hf 0 (by omega)).2.2, fun i hi => ?_, fun i hi => ?_⟩⟩, ?_, by omega⟩
    · simp at hi
      have := (hf i hi).2.1.1
      simpa using this
    · simp at hi
      have := (hf i hi).2.1.2
      simpa using this
    · intro q hq
      simp at hq
      obtain ⟨i, hi, rfl⟩ := hq
      exact (hf i hi).1
set_option maxRecDepth 100000 in
/-- A slice that came in. -/
theorem read_Nests {r : Reach} {b0 : Nat} {v0 : Value} {d : DataW H} {p : List MemPlace} (hv : Value.okWide Try.prog w r b0 22 v0) (h : DataW.Trod enc Try.prog w base sp held 22 v0 d p) :
    ∃ (l : List NestT) (a : Option Addr) (len cap : Nat), v0 = .slice a len cap ∧ SlNest w a len l ∧ (∀ q ∈ l, NestT.Ok q) ∧ len ≤ maxLen := by
  obtain ⟨fuel, hf0⟩ := h
  obtain ⟨a, len, cap, rfl⟩ := okWide_slice Try.underlying22 hv
  obtain ⟨l, h1, h2, h3⟩ := reads_Nest hf0
  exact ⟨l, a, len, cap, rfl, h1, h2, h3⟩
end
end Go.Proofs.Ytakjnbdjjeccoaa
/- Worlds that only grew. -/
namespace Go.Proofs.Ytakjnbdjjeccoaa
open Go.RowKit Go.Sort Go.Lib

/-- The world grew by blocks and draws alone. -/
def Gr (w w' : World) : Prop := ∃ q os, w' = grow (w.drewN q) os
theorem Gr.refl (w : World) : Gr w w := ⟨0, #[], by simp [World.drewN]⟩
theorem Gr.alloc {w w' : World} (h : Gr w w') (o : Obj) : Gr w (w'.alloc o) := by
  obtain ⟨q, os, rfl⟩ := h
  exact ⟨q, os ++ #[o], by rw [alloc_eq_grow, grow_grow]⟩
theorem Gr.drew {w w' : World} (h : Gr w w') : Gr w w'.drew := by
  obtain ⟨q, os, rfl⟩ := h
  exact ⟨q + 1, os, rfl⟩
theorem Gr.trans {a b c : World} (h : Gr a b) (k : Gr b c) : Gr a c := by
  obtain ⟨q, os, rfl⟩ := h
  obtain ⟨q', os', rfl⟩ := k
  refine ⟨q + q', os ++ os', ?_⟩
  rw [← grow_grow]
  simp [grow, World.drewN, Nat.add_assoc]
theorem Gr.below {w w' : World} (h : Gr w w') : Below w.heap.size w w' := by
  obtain ⟨q, os, rfl⟩ := h
  refine ⟨rfl, rfl, rfl, by simp [grow, World.drewN], fun k hk => ?_⟩
  show (w.heap ++ os)[k]? = w.heap[k]?
  rw [Array.getElem?_append_left hk]

end Go.Proofs.Ytakjnbdjjeccoaa
