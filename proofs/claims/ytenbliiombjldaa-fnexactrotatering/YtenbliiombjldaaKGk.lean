/- Slices of impl.Key: in memory, read, sized, copied, held against each other. -/
import Derived.Test.YtenbliiombjldaaGBase
import Derived.ProofKit
import Derived.Deep.Slices
import Derived.Laws.MakeOwn
import Derived.OwnWalk
namespace Go.Proofs.Ytenbliiombjldaa
open Go.ChangeShapes Go.WideShapes Go.RowKit

structure KeyT where
  f0 : ByteArray
  f1 : Int
  f2 : Int
  f3 : Int
structure KeyT.Ok (x : KeyT) : Prop where
  o0 : x.f0.size ≤ maxLen
  o1 : (Lit.int .i64 x.f1).wf = true
  o2 : (Lit.int .i64 x.f2).wf = true
  o3 : (Lit.int .i64 x.f3).wf = true
def encKey (x : KeyT) : List Value := [.string x.f0, .int .i64 x.f1, .int .i64 x.f2, .int .i64 x.f3]
structure KeyRow (w : World) (b off : Nat) (l : List KeyT) : Prop where
  z : b < w.heap.size
  c0 : ∀ i (h : i < l.length), w.cell? ⟨b, off + i * 4, none⟩ = some (.string l[i].f0)
  c1 : ∀ i (h : i < l.length), w.cell? ⟨b, off + i * 4 + 1, none⟩ = some (.int .i64 l[i].f1)
  c2 : ∀ i (h : i < l.length), w.cell? ⟨b, off + i * 4 + 2, none⟩ = some (.int .i64 l[i].f2)
  c3 : ∀ i (h : i < l.length), w.cell? ⟨b, off + i * 4 + 3, none⟩ = some (.int .i64 l[i].f3)
theorem KeyRow.keep {w w1 : World} {b off : Nat} {l : List KeyT} (h : KeyRow w b off l) (hb : Below w.heap.size w w1) : KeyRow w1 b off l :=
  ⟨Nat.lt_of_lt_of_le h.z hb.size, fun i hi => cellB hb h.z (h.c0 i hi), fun i hi => cellB hb h.z (h.c1 i hi), fun i hi => cellB hb h.z (h.c2 i hi), fun i hi => cellB hb h.z (h.c3 i hi)⟩
def SlKey (w : World) (a : Option Addr) (len : Nat) (l : List KeyT) : Prop := len = l.length ∧ (l = [] ∨ ∃ b off, a = some ⟨b, off, none⟩ ∧ KeyRow w b off l)
theorem SlKey.keep {w w1 : World} {a : Option Addr} {len : Nat} {l : List KeyT} (h : SlKey w a len l) (hb : Below w.heap.size w w1) : SlKey w1 a len l :=
  ⟨h.1, by
    rcases h.2 with e | ⟨b, off, e, r⟩
    · exact .inl e
    · exact .inr ⟨b, off, e, r.keep hb⟩⟩
theorem SlKey.at {w : World} {a : Option Addr} {len : Nat} {l : List KeyT} (h : SlKey w a len l) {k : Nat} (hk : k < len) : ∃ b off, a = some ⟨b, off, none⟩ ∧ KeyRow w b off l := by
  rcases h.2 with e | e
  · rw [h.1, e] at hk; simp at hk
  · exact e
theorem bStKey {w w' : World} (h : Below w.heap.size w w') (b o : Nat) (hb : w.heap.size ≤ b) (v : Value) : Below w.heap.size w (w'.setCell ⟨b, o, none⟩ v) := h.setCell hb v
set_option maxHeartbeats 400000 in
theorem toKey_any (f0 : ByteArray) (f1 : Int) (f2 : Int) (f3 : Int) (w : World) :
    Calls Try.prog 8 #[.agg #[.string f0, .int .i64 f1, .int .i64 f2, .int .i64 f3]] w fun e w' => e = .returned (.agg #[.string f0, .int .i64 f1, .int .i64 f2, .int .i64 f3]) ∧ Below w.heap.size w w' := by
  go_enter Try.func8, Try.ntmps8
  go_wp2
  exact bodyPost_ret (v := .agg #[.string f0, .int .i64 f1, .int .i64 f2, .int .i64 f3]) (by simp [results, Try.results8, go_sem]) rfl ⟨rfl, bAl (bAl (bAl (Below.refl _ _) _) _) _⟩
set_option maxHeartbeats 400000 in
theorem eqKey_same (f0 : ByteArray) (f1 : Int) (f2 : Int) (f3 : Int) (w : World) :
    Calls Try.prog 22 #[.agg #[.string f0, .int .i64 f1, .int .i64 f2, .int .i64 f3], .agg #[.string f0, .int .i64 f1, .int .i64 f2, .int .i64 f3]] w fun e w' => e = .returned (.bool true) ∧ Below w.heap.size w w' := by
  go_enter Try.func22, Try.ntmps22
  go_wp2
  go_ret
  exact ⟨rfl, bAl (bAl (Below.refl _ _) _) _⟩
set_option maxHeartbeats 400000 in
theorem szKey_any (f0 : ByteArray) (f1 : Int) (f2 : Int) (f3 : Int) (l : Int) (w : World) (h0 : 0 ≤ l) (h1 : l ≤ 1048576) (s0 : f0.size ≤ maxLen) :
    Calls Try.prog 5 #[.agg #[.string f0, .int .i64 f1, .int .i64 f2, .int .i64 f3], .int .i64 l] w fun e w' => (∃ m : Int, -1 ≤ m ∧ m ≤ l ∧ e = .returned (.int .i64 m)) ∧ Below w.heap.size w w' := by
  unfold maxLen at s0
  go_enter Try.func5, Try.ntmps5
  go_wp2
  all_goals go_ret
  all_goals exact ⟨⟨_, by omega, by omega, rfl⟩, bAl (Below.refl _ _) _⟩
set_option maxHeartbeats 400000 in
theorem szKeyS_any (a : Option Addr) (len cap : Nat) (l : List KeyT) (left : Int) (w : World) (h0 : 0 ≤ left) (h1 : left ≤ 1048576) (hl : len ≤ maxLen) (hs : SlKey w a len l) (hok : ∀ q ∈ l, KeyT.Ok q) :
    Calls Try.prog 4 #[.slice a len cap, .int .i64 left] w fun e w' => (∃ m : Int, -1 ≤ m ∧ m ≤ left ∧ (0 ≤ m → (len : Int) ≤ left) ∧ e = .returned (.int .i64 m)) ∧ Below w.heap.size w w' := by
  unfold maxLen at hl
  by_cases hlen : left < (len : Int)
  · clear hs hok
    go_enter Try.func4, Try.ntmps4
    go_wp2
    go_ret
    exact ⟨⟨-1, by omega, by omega, by omega, rfl⟩, Below.refl _ _⟩
  have d1 : decide (left - (len : Int) < 0) = false := by simp; omega
  have HS := hide hs
  clear hs
  go_enter Try.func4, Try.ntmps4
  go_wp2
  go_loopw [1, 5] (fun m i w' => ∃ (k : Nat) (q : Int), k ≤ len ∧ 0 ≤ q ∧ q ≤ left ∧ i = .int .i64 k ∧ m = .int .i64 q ∧ Below w.heap.size w w') (fun _ i _ => len - (Go.RowKit.intOf i).toNat)
  case atStart => exact ⟨0, _, Nat.zero_le _, by omega, by omega, rfl, rfl, Below.refl _ _⟩
  case round =>
    obtain ⟨k, q, hk, hq1, hq2, rfl, rfl, hbel⟩ := hrel
    by_cases hlt : k < len
    · obtain ⟨b, off, rfl, hrow⟩ := ((unhide HS).keep hbel).at hlt
      have hk' : k < l.length := by rw [← (unhide HS).1]; exact hlt
      have c0 := hrow.c0 k hk'
      have c1 := hrow.c1 k hk'
      have c2 := hrow.c2 k hk'
      have c3 := hrow.c3 k hk'
      have ho := hok _ (List.getElem_mem hk')
      have hz := hide (fun q w h0 h1 => szKey_any (l[k]).f0 (l[k]).f1 (l[k]).f2 (l[k]).f3 q w h0 h1 ho.o0)
      clear hrow ho hok
      generalize l[k] = A at hz c0 c1 c2 c3
      go_wp2_with fail
      refine (unhide hz _ _ (by omega) (by omega)).mono ?_
      rintro e w1 ⟨⟨m, hm1, hm2, rfl⟩, hb1⟩
      by_cases hm : m < 0
      · go_wp2_with fail
        go_ret
        exact ⟨⟨-1, by omega, by omega, by omega, rfl⟩, bTr hbel hb1⟩
      · go_wp2_with fail
        exact ⟨⟨k + 1, m, by omega, by omega, by omega, by go_num, rfl, bTr hbel hb1⟩, by simp [Go.RowKit.intOf]; omega⟩
    · go_wp2_with fail
      go_ret
      exact ⟨⟨q, by omega, by omega, by omega, rfl⟩, hbel⟩
theorem info_Key : (Try.prog.info? 30).map (fun i => (i.zero, i.size, i.bytes)) = some (some (.agg #[.string ByteArray.empty, .int .i64 0, .int .i64 0, .int .i64 0]), 4, 40) := by kernel_rfl
theorem make_Key (len : Nat) (w : World) (h : len ≤ 1048576) : ∃ w1 C, (Instr.makeSlice 27 (.int .i64 (len : Int)) (.int .i64 (len : Int))).run Try.prog w = .ok (.slice (some ⟨w.heap.size, 0, none⟩) len len) w1 ∧
    Below w.heap.size w w1 ∧ RowIs w1 w.heap.size C 30 ∧ C.size = len * 4 := by
  obtain ⟨i, h1, h2⟩ := Option.map_eq_some_iff.1 info_Key
  simp only [Prod.mk.injEq] at h2
  obtain ⟨hz, hsz, hby⟩ := h2
  have hr := run_make (P := Try.prog) w 27 30 i _ Try.underlying27 h1 hz .i64 .i64 (len : Int) (len : Int) (by omega) (by omega) (by rw [hby]; omega) (by omega)
  rw [Int.toNat_natCast, hsz] at hr
  exact ⟨_, _, hr, bAl (Below.refl _ _) _, RowIs.new _ _ _, size_madeCells _ _⟩
def FilledKey (C : Array Value) (l : List KeyT) (k : Nat) : Prop := ∀ i (h : i < l.length), i < k → C[i * 4]? = some (.string l[i].f0) ∧ C[i * 4 + 1]? = some (.int .i64 l[i].f1) ∧ C[i * 4 + 2]? = some (.int .i64 l[i].f2) ∧ C[i * 4 + 3]? = some (.int .i64 l[i].f3)
def setKey (C : Array Value) (k : Nat) (x : KeyT) : Array Value := ((((C.setIfInBounds (k * 4) (.string x.f0)).setIfInBounds (k * 4 + 1) (.int .i64 x.f1)).setIfInBounds (k * 4 + 2) (.int .i64 x.f2)).setIfInBounds (k * 4 + 3) (.int .i64 x.f3))
theorem size_setKey (C : Array Value) (k : Nat) (x : KeyT) : (setKey C k x).size = C.size := by simp [setKey]
theorem FilledKey.set {C : Array Value} {l : List KeyT} {k : Nat} (h : FilledKey C l k) (hk : k < l.length) (hC : C.size = l.length * 4) : FilledKey (setKey C k l[k]) l (k + 1) := by
  intro i hi hik
  unfold setKey
  by_cases e : i = k
  · subst e
    have s0 : i * 4 < C.size := by omega
    have s1 : i * 4 + 1 < C.size := by omega
    have s2 : i * 4 + 2 < C.size := by omega
    have s3 : i * 4 + 3 < C.size := by omega
    simp [s0, s1, s2, s3]
  · have := h i hi (by omega)
    simp only [Array.getElem?_setIfInBounds]
    repeat rw [if_neg (by omega)]
    exact this
theorem FilledKey.row {w : World} {b : Nat} {C : Array Value} {T : TypeId} {l : List KeyT} (h : FilledKey C l l.length) (hr : RowIs w b C T) : KeyRow w b 0 l :=
  ⟨hr.lt, fun i hi => by rw [Nat.zero_add, hr.cell]; exact (h i hi hi).1, fun i hi => by rw [Nat.zero_add, hr.cell]; exact (h i hi hi).2.1, fun i hi => by rw [Nat.zero_add, hr.cell]; exact (h i hi hi).2.2.1, fun i hi => by rw [Nat.zero_add, hr.cell]; exact (h i hi hi).2.2.2⟩
set_option maxRecDepth 100000 in
set_option maxHeartbeats 1000000 in
theorem toKeyS_own (a : Option Addr) (len cap : Nat) (l : List KeyT) (w : World) (hl : len ≤ 1048576) (hs : SlKey w a len l) :
    Calls Try.prog 7 #[.slice a len cap] w fun e w' => e = .returned (.slice (some ⟨w.heap.size, 0, none⟩) len len) ∧ (∃ C, RowIs w' w.heap.size C 30 ∧ C.size = len * 4 ∧ KeyRow w' w.heap.size 0 l) ∧ Below w.heap.size w w' := by
  obtain ⟨w1, C1, hrun, hb1, hr1, hC1⟩ := make_Key len w hl
  have HS := hide hs
  have HB1 := hide hb1
  have HR1 := hide hr1
  clear hs hb1 hr1
  go_enter Try.func7, Try.ntmps7
  go_wp2
  clear hrun
  go_loopw [4] (fun i w' => ∃ (k : Nat) (C : Array Value), k ≤ len ∧ i = .int .i64 k ∧ Hid (Below w.heap.size w w') ∧ Hid (RowIs w' w.heap.size C 30) ∧ Hid (C.size = len * 4) ∧ Hid (FilledKey C l k)) (fun i _ => len - (Go.RowKit.intOf i).toNat)
  case atStart => exact ⟨0, C1, Nat.zero_le _, rfl, HB1, HR1, hide hC1, hide (fun i _ h => absurd h (Nat.not_lt_zero _))⟩
  case round =>
    obtain ⟨k, C, hk, rfl, hb, hr, hC, hF⟩ := hrel
    by_cases hlt : k < len
    · obtain ⟨b, off, rfl, hrow⟩ := ((unhide HS).keep (unhide hb)).at hlt
      have hk' : k < l.length := by rw [← (unhide HS).1]; exact hlt
      have c0 := hrow.c0 k hk'
      have c1 := hrow.c1 k hk'
      have c2 := hrow.c2 k hk'
      have c3 := hrow.c3 k hk'
      have hF' := hide ((unhide hF).set hk' (by rw [unhide hC, (unhide HS).1]))
      clear hrow hC1
      generalize l[k] = A at c0 c1 c2 c3 hF'
      go_wp2_with fail
      refine (toKey_any A.f0 A.f1 A.f2 A.f3 _).mono ?_
      rintro e w2 ⟨rfl, hb2⟩
      replace hr := hide ((unhide hr).keep hb2)
      replace hb := hide (bTr (unhide hb) hb2)
      have s9 : k * 4 + 3 < C.size := by rw [unhide hC]; omega
      obtain ⟨D0, d0⟩ : ∃ D, C[k * 4]? = some D := ⟨_, Array.getElem?_eq_getElem (by omega)⟩
      have g0 := (unhide hr).at d0
      have y0 := (unhide hr).froz (k * 4)
      clear d0
      obtain ⟨D1, d1⟩ : ∃ D, C[k * 4 + 1]? = some D := ⟨_, Array.getElem?_eq_getElem (by omega)⟩
      have g1 := (unhide hr).at d1
      have y1 := (unhide hr).froz (k * 4 + 1)
      clear d1
      obtain ⟨D2, d2⟩ : ∃ D, C[k * 4 + 2]? = some D := ⟨_, Array.getElem?_eq_getElem (by omega)⟩
      have g2 := (unhide hr).at d2
      have y2 := (unhide hr).froz (k * 4 + 2)
      clear d2
      obtain ⟨D3, d3⟩ : ∃ D, C[k * 4 + 3]? = some D := ⟨_, Array.getElem?_eq_getElem (by omega)⟩
      have g3 := (unhide hr).at d3
      have y3 := (unhide hr).froz (k * 4 + 3)
      clear d3
      clear c0 c1 c2 c3 hb2
      go_wp2_with fail
      refine ⟨⟨k + 1, setKey C k A, by omega, by go_num, hide ?_, hide ?_, hide (by rw [size_setKey]; exact unhide hC), hF'⟩, by simp [Go.RowKit.intOf]; omega⟩
      · repeat refine bStKey ?_ _ _ (Nat.le_refl _) _
        exact unhide hb
      · exact ((((unhide hr).set _ _).set _ _).set _ _).set _ _
    · go_wp2_with fail
      go_ret
      have e : k = l.length := by rw [← (unhide HS).1]; omega
      exact ⟨rfl, ⟨C, unhide hr, unhide hC, FilledKey.row (by rw [← e]; exact unhide hF) (unhide hr)⟩, unhide hb⟩
set_option maxHeartbeats 1000000 in
theorem eqKeyS_same (a1 a2 : Option Addr) (len1 c1 len2 c2 : Nat) (l : List KeyT) (w : World) (h1 : SlKey w a1 len1 l) (h2 : SlKey w a2 len2 l) (hm : len1 ≤ maxLen) :
    Calls Try.prog 10 #[.slice a1 len1 c1, .slice a2 len2 c2] w fun e w' => e = .returned (.bool true) ∧ Below w.heap.size w w' := by
  unfold maxLen at hm
  obtain rfl : len1 = len2 := by rw [h1.1, h2.1]
  have H1 := hide h1
  have H2 := hide h2
  clear h1 h2
  go_enter Try.func10, Try.ntmps10
  go_wp2
  go_loopw [5] (fun i w' => ∃ k : Nat, k ≤ len1 ∧ i = .int .i64 k ∧ Below w.heap.size w w') (fun i _ => len1 - (Go.RowKit.intOf i).toNat)
  case atStart => exact ⟨0, Nat.zero_le _, rfl, Below.refl _ _⟩
  case round =>
    obtain ⟨k, hk, rfl, hbel⟩ := hrel
    by_cases hlt : k < len1
    · have g1 := hide ((unhide H1).keep hbel)
      have g2 := hide ((unhide H2).keep hbel)
      have hk' : k < l.length := by rw [← (unhide H1).1]; exact hlt
      obtain ⟨b, off, rfl, r1⟩ := (unhide g1).at hlt
      obtain ⟨b', off', rfl, r2⟩ := (unhide g2).at hlt
      have p0 := r1.c0 k hk'
      have p1 := r1.c1 k hk'
      have p2 := r1.c2 k hk'
      have p3 := r1.c3 k hk'
      have q0 := r2.c0 k hk'
      have q1 := r2.c1 k hk'
      have q2 := r2.c2 k hk'
      have q3 := r2.c3 k hk'
      have z1 := r1.z
      have z2 := r2.z
      clear r1 r2 g1 g2
      generalize l[k] = A at p0 p1 p2 p3 q0 q1 q2 q3
      have ne : Nonempty (Kept wr) := ⟨⟨wr, Below.refl _ _⟩⟩
      have x0 := kept_cell z1 p0
      have x1 := kept_cell z1 p1
      have x2 := kept_cell z1 p2
      have x3 := kept_cell z1 p3
      have y0 := kept_cell z2 q0
      have y1 := kept_cell z2 q1
      have y2 := kept_cell z2 q2
      have y3 := kept_cell z2 q3
      have i0 : (0 : Int) ≤ (k : Int) := by omega
      have i1 : (k : Int) < (len1 : Int) := by omega
      go_wp2_with fail
      refine wp_region_kept (by kernel_rfl) (by kernel_rfl) ?_
      repeat (first
        | go_big_quiet_step ((go_at_call 22; exact kept_call (eqKey_same _ _ _ _ _)))
        | quiet_step ((go_at_call 22; exact kept_call (eqKey_same _ _ _ _ _))))
      refine wpQuiet_nil ?_
      rintro _ ⟨q, rfl⟩
      clear ne x0 x1 x2 x3 y0 y1 y2 y3
      obtain ⟨w3, hb3⟩ := q
      go_wp2_with fail
      exact ⟨⟨k + 1, by omega, by go_num, bTr hbel hb3⟩, by simp [Go.RowKit.intOf]; omega⟩
    · go_wp2_with fail
      go_ret
      exact ⟨rfl, hbel⟩
def KeysV (l : List KeyT) : List Value := l.flatMap encKey
theorem KeysV_snoc (l : List KeyT) (c : KeyT) : KeysV (l ++ [c]) = KeysV l ++ encKey c := by simp [KeysV]
theorem encKey_one (c : KeyT) : ∀ x ∈ encKey c, x.oneCell' = true := by
  intro x hx
  simp [encKey] at hx
  rcases hx with rfl | rfl | rfl | rfl <;> rfl
theorem KeysV_get : ∀ (l : List KeyT) (i : Nat) (h : i < l.length) (j : Nat) (v : Value), (encKey l[i])[j]? = some v → (KeysV l)[i * 4 + j]? = some v
  | [], i, h, _, _, _ => absurd h (Nat.not_lt_zero _)
  | c :: l, 0, _, j, v, hv => by
    have hj := (List.getElem?_eq_some_iff.1 hv).1
    have e : KeysV (c :: l) = encKey c ++ KeysV l := by simp [KeysV]
    rw [e, List.getElem?_append_left (by simpa using hj)]
    simpa using hv
  | c :: l, i + 1, h, j, v, hv => by
    have e : KeysV (c :: l) = encKey c ++ KeysV l := by simp [KeysV]
    have hl : (encKey c).length = 4 := rfl
    rw [e, List.getElem?_append_right (by rw [hl]; omega), hl, show (i + 1) * 4 + j - 4 = i * 4 + j by omega]
    exact KeysV_get l i (by simpa using h) j v (by simpa using hv)
theorem own_Key {w : World} {base : Nat} {v : Value} {l : List KeyT} (h : w.ownsRow base 30 4 v l.length (KeysV l)) : ∃ a cap, v = .slice a l.length cap ∧ SlKey w a l.length l := by
  rcases h.2 with ⟨rfl, e⟩ | ⟨g, cap, cur, rfl, _, hh, _, _, hsz, htk⟩
  · have : l = [] := List.length_eq_zero_iff.1 e
    subst this
    exact ⟨none, 0, rfl, rfl, .inl rfl⟩
  · have hr : RowIs w g cur 30 := hh
    have hc : ∀ i (hi : i < l.length) j u, (encKey l[i])[j]? = some u → w.cell? ⟨g, 0 + i * 4 + j, none⟩ = some u := fun i hi j u hu => by
      have hu2 := KeysV_get l i hi j u hu
      rw [← htk, List.getElem?_take] at hu2
      rw [Nat.zero_add, hr.cell, ← Array.getElem?_toList]
      split at hu2
      · exact hu2
      · cases hu2
    exact ⟨_, _, rfl, rfl, .inr ⟨g, 0, rfl, hr.lt, fun i hi => hc i hi 0 _ rfl, fun i hi => hc i hi 1 _ rfl, fun i hi => hc i hi 2 _ rfl, fun i hi => hc i hi 3 _ rfl⟩⟩
theorem eqOwnKey {w : World} {b1 b2 : Nat} {v1 v2 : Value} {l : List KeyT} (h1 : w.ownsRow b1 30 4 v1 l.length (KeysV l)) (h2 : w.ownsRow b2 30 4 v2 l.length (KeysV l)) (hl : l.length ≤ 1000000) :
    Calls Try.prog 10 #[v1, v2] w fun e w' => e = .returned (.bool true) ∧ Below w.heap.size w w' := by
  obtain ⟨a1, c1, rfl, s1⟩ := own_Key h1
  obtain ⟨a2, c2, rfl, s2⟩ := own_Key h2
  exact eqKeyS_same a1 a2 l.length c1 l.length c2 l w s1 s2 (by unfold maxLen; omega)
theorem listnKey {α : Type} {l : List α} (h : l.length = 4) : ∃ a0 a1 a2 a3, l = [a0, a1, a2, a3] := by
  match l, h with
  | [a0, a1, a2, a3], _ => exact ⟨a0, a1, a2, a3, rfl⟩
section
variable {H : Type} {enc : TypeId × Value → H} {w : World} {base : Nat} {sp : Nat → Bool} {held : Bool}
theorem addr_Key (b off k : Nat) : (⟨b, off, none⟩ : Addr).add k = ⟨b, off + k, none⟩ := by
  unfold Addr.add; split <;> simp_all
set_option maxRecDepth 100000 in
theorem read_Key {n : Nat} {cs : List Value} {x : DataW H × List MemPlace} (h : DataW.trod enc Try.prog w base sp held n 24 cs = some x) : ∃ A : KeyT, cs = [.string A.f0, .int .i64 A.f1, .int .i64 A.f2, .int .i64 A.f3] ∧ A.Ok := by
  obtain ⟨xs, m, rfl, _, hlen, hx, hf⟩ := DataW.trod_struct Try.underlying24 h
  have hc : Try.prog.cellsOf 24 = 4 := by kernel_rfl
  have k9 : Try.prog.cellsOf 9 = 1 := by kernel_rfl
  have k3 : Try.prog.cellsOf 3 = 1 := by kernel_rfl
  have k4 : Try.prog.cellsOf 4 = 1 := by kernel_rfl
  obtain ⟨c0, c1, c2, c3, rfl⟩ := listnKey (hlen.trans hc)
  obtain ⟨x0, x1, x2, x3, rfl⟩ := listnKey hx
  have h0 : DataW.trod enc Try.prog w base sp held m 9 [c0] = some x0 := by have := hf 0 _ rfl; simpa [k9, k3, k4] using this
  obtain ⟨y0, e0, _, ok0⟩ := DataW.trod_string Try.underlying9 h0
  have h1 : DataW.trod enc Try.prog w base sp held m 3 [c1] = some x1 := by have := hf 1 _ rfl; simpa [k9, k3, k4] using this
  obtain ⟨y1, e1, _, ok1⟩ := DataW.trod_int Try.underlying3 h1
  have h2 : DataW.trod enc Try.prog w base sp held m 3 [c2] = some x2 := by have := hf 2 _ rfl; simpa [k9, k3, k4] using this
  obtain ⟨y2, e2, _, ok2⟩ := DataW.trod_int Try.underlying3 h2
  have h3 : DataW.trod enc Try.prog w base sp held m 3 [c3] = some x3 := by have := hf 3 _ rfl; simpa [k9, k3, k4] using this
  obtain ⟨y3, e3, _, ok3⟩ := DataW.trod_int Try.underlying3 h3
  simp at e0 e1 e2 e3
  subst e0 e1 e2 e3
  exact ⟨⟨y0, y1, y2, y3⟩, rfl, ok0, ok1, ok2, ok3⟩
set_option maxRecDepth 100000 in
theorem reads_Key {n len cap : Nat} {a : Option Addr} {x : DataW H × List MemPlace} (h : DataW.trod enc Try.prog w base sp held n 22 [.slice a len cap] = some x) :
    ∃ l : List KeyT, SlKey w a len l ∧ (∀ q ∈ l, KeyT.Ok q) ∧ len ≤ maxLen := by
  have hc : Try.prog.cellsOf 24 = 4 := by kernel_rfl
  rcases Go.Deep.open_slice Try.underlying22 h with ⟨hcs, _⟩ | ⟨a', len', cap', m, n', D, Pl, hcs, _, hl, hm, hmm, _, hel⟩
  · simp at hcs
    obtain ⟨rfl, rfl, rfl⟩ := hcs
    exact ⟨[], ⟨rfl, .inl rfl⟩, by simp, Nat.zero_le _⟩
  · simp at hcs
    obtain ⟨rfl, rfl, rfl⟩ := hcs
    have hlm : len ≤ m := by rw [hmm]; split <;> omega
    by_cases h0 : len = 0
    · subst h0; exact ⟨[], ⟨rfl, .inl rfl⟩, by simp, Nat.zero_le _⟩
    have hspot : a'.spot = none := by
      obtain ⟨cs', h1, h2⟩ := hel 0 (by omega)
      rw [hc] at h1
      obtain ⟨A, rfl, _⟩ := read_Key h2
      have e0 := (World.cells?_some h1).2.2 0 (by omega)
      simp [Addr.add] at e0
      exact World.cell?_spot e0
    obtain ⟨b, off, spot⟩ := a'
    simp only at hspot
    subst hspot
    have hA : ∀ i, i < len → ∃ A : KeyT, A.Ok ∧ (w.cell? ⟨b, off + i * 4, none⟩ = some (.string A.f0) ∧ w.cell? ⟨b, off + i * 4 + 1, none⟩ = some (.int .i64 A.f1) ∧ w.cell? ⟨b, off + i * 4 + 2, none⟩ = some (.int .i64 A.f2) ∧ w.cell? ⟨b, off + i * 4 + 3, none⟩ = some (.int .i64 A.f3)) ∧ b < w.heap.size := by
      intro i hi
      obtain ⟨cs', h1, h2⟩ := hel i (by omega)
      rw [hc, addr_Key] at h1
      obtain ⟨A, rfl, hok⟩ := read_Key h2
      have h3 := (World.cells?_some h1).2.2
      have e0 := h3 0 (by omega)
      have e1 := h3 1 (by omega)
      have e2 := h3 2 (by omega)
      have e3 := h3 3 (by omega)
      rw [addr_Key] at e0 e1 e2 e3
      exact ⟨A, hok, ⟨e0, e1, e2, e3⟩, World.block_lt_of_cell? w ⟨b, off + i * 4 + 0, none⟩ e0⟩
    obtain ⟨f, hf⟩ := @Go.Deep.choose_lt KeyT ⟨⟨⟨#[]⟩, 0, 0, 0⟩⟩ len (fun i A => A.Ok ∧ (w.cell? ⟨b, off + i * 4, none⟩ = some (.string A.f0) ∧ w.cell? ⟨b, off + i * 4 + 1, none⟩ = some (.int .i64 A.f1) ∧ w.cell? ⟨b, off + i * 4 + 2, none⟩ = some (.int .i64 A.f2) ∧ w.cell? ⟨b, off + i * 4 + 3, none⟩ = some (.int .i64 A.f3)) ∧ b < w.heap.size) hA
    refine ⟨(List.range len).map f, ⟨by simp, .inr ⟨b, off, rfl, (hf 0 (by omega)).2.2, fun i hi => ?_, fun i hi => ?_, fun i hi => ?_, fun i hi => ?_⟩⟩, ?_, by omega⟩
    · simp at hi
      have := (hf i hi).2.1.1
      simpa using this
    · simp at hi
      have := (hf i hi).2.1.2.1
      simpa using this
    · simp at hi
      have := (hf i hi).2.1.2.2.1
      simpa using this
    · simp at hi
      have := (hf i hi).2.1.2.2.2
      simpa using this
    · intro q hq
      simp at hq
      obtain ⟨i, hi, rfl⟩ := hq
      exact (hf i hi).1
set_option maxRecDepth 100000 in
/-- A slice that came in. -/
theorem read_Keys {r : Reach} {b0 : Nat} {v0 : Value} {d : DataW H} {p : List MemPlace} (hv : Value.okWide Try.prog w r b0 22 v0) (h : DataW.Trod enc Try.prog w base sp held 22 v0 d p) :
    ∃ (l : List KeyT) (a : Option Addr) (len cap : Nat), v0 = .slice a len cap ∧ SlKey w a len l ∧ (∀ q ∈ l, KeyT.Ok q) ∧ len ≤ maxLen := by
  obtain ⟨fuel, hf0⟩ := h
  obtain ⟨a, len, cap, rfl⟩ := okWide_slice Try.underlying22 hv
  obtain ⟨l, h1, h2, h3⟩ := reads_Key hf0
  exact ⟨l, a, len, cap, rfl, h1, h2, h3⟩
end
end Go.Proofs.Ytenbliiombjldaa
