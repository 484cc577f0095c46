/- Slices of impl.Try: in memory, read, sized, copied, held against each other. -/
import Derived.Test.YtdfjhnfidbkdpaaGBase
import Derived.ProofKit
import Derived.Deep.Slices
import Derived.Laws.MakeOwn
import Derived.OwnWalk
namespace Go.Proofs.Ytdfjhnfidbkdpaa
open Go.ChangeShapes Go.WideShapes Go.RowKit

structure TryT where
  f0 : Int
  f1 : Bool
structure TryT.Ok (x : TryT) : Prop where
  o0 : (Lit.int .i64 x.f0).wf = true
  o1 : True
def encTry (x : TryT) : List Value := [.int .i64 x.f0, .bool x.f1]
structure TryRow (w : World) (b off : Nat) (l : List TryT) : Prop where
  z : b < w.heap.size
  c0 : ∀ i (h : i < l.length), w.cell? ⟨b, off + i * 2, none⟩ = some (.int .i64 l[i].f0)
  c1 : ∀ i (h : i < l.length), w.cell? ⟨b, off + i * 2 + 1, none⟩ = some (.bool l[i].f1)
theorem TryRow.keep {w w1 : World} {b off : Nat} {l : List TryT} (h : TryRow w b off l) (hb : Below w.heap.size w w1) : TryRow w1 b off l :=
  ⟨Nat.lt_of_lt_of_le h.z hb.size, fun i hi => cellB hb h.z (h.c0 i hi), fun i hi => cellB hb h.z (h.c1 i hi)⟩
def SlTry (w : World) (a : Option Addr) (len : Nat) (l : List TryT) : Prop := len = l.length ∧ (l = [] ∨ ∃ b off, a = some ⟨b, off, none⟩ ∧ TryRow w b off l)
theorem SlTry.keep {w w1 : World} {a : Option Addr} {len : Nat} {l : List TryT} (h : SlTry w a len l) (hb : Below w.heap.size w w1) : SlTry w1 a len l :=
  ⟨h.1, by
    rcases h.2 with e | ⟨b, off, e, r⟩
    · exact .inl e
    · exact .inr ⟨b, off, e, r.keep hb⟩⟩
theorem SlTry.at {w : World} {a : Option Addr} {len : Nat} {l : List TryT} (h : SlTry w a len l) {k : Nat} (hk : k < len) : ∃ b off, a = some ⟨b, off, none⟩ ∧ TryRow w b off l := by
  rcases h.2 with e | e
  · rw [h.1, e] at hk; simp at hk
  · exact e
theorem bStTry {w w' : World} (h : Below w.heap.size w w') (b o : Nat) (hb : w.heap.size ≤ b) (v : Value) : Below w.heap.size w (w'.setCell ⟨b, o, none⟩ v) := h.setCell hb v
set_option maxHeartbeats 400000 in
theorem toTry_any (f0 : Int) (f1 : Bool) (w : World) :
    Calls Try.prog 23 #[.agg #[.int .i64 f0, .bool f1]] w fun e w' => e = .returned (.agg #[.int .i64 f0, .bool f1]) ∧ Below w.heap.size w w' := by
  go_enter Try.func23, Try.ntmps23
  go_wp2
  exact bodyPost_ret (v := .agg #[.int .i64 f0, .bool f1]) (by simp [results, Try.results23, go_sem]) rfl ⟨rfl, bAl (bAl (bAl (Below.refl _ _) _) _) _⟩
set_option maxHeartbeats 400000 in
theorem eqTry_same (f0 : Int) (f1 : Bool) (w : World) :
    Calls Try.prog 24 #[.agg #[.int .i64 f0, .bool f1], .agg #[.int .i64 f0, .bool f1]] w fun e w' => e = .returned (.bool true) ∧ Below w.heap.size w w' := by
  go_enter Try.func24, Try.ntmps24
  go_wp2
  go_ret
  exact ⟨rfl, bAl (bAl (Below.refl _ _) _) _⟩
set_option maxHeartbeats 400000 in
theorem szTryS_any (a : Option Addr) (len cap : Nat) (l : List TryT) (left : Int) (w : World) (h0 : 0 ≤ left) (h1 : left ≤ 1048576) (hl : len ≤ maxLen) (_hs : SlTry w a len l) (_hok : ∀ q ∈ l, TryT.Ok q) :
    Calls Try.prog 9 #[.slice a len cap, .int .i64 left] w fun e w' => (∃ m : Int, -1 ≤ m ∧ m ≤ left ∧ (0 ≤ m → (len : Int) ≤ left) ∧ e = .returned (.int .i64 m)) ∧ Below w.heap.size w w' := by
  unfold maxLen at hl
  by_cases hlen : left < (len : Int)
  · go_enter Try.func9, Try.ntmps9
    go_wp2
    go_ret
    exact ⟨⟨-1, by omega, by omega, by omega, rfl⟩, Below.refl _ _⟩
  have d1 : decide (left - (len : Int) < 0) = false := by simp; omega
  go_enter Try.func9, Try.ntmps9
  go_wp2
  go_ret
  exact ⟨⟨left - (len : Int), by omega, by omega, rfl⟩, Below.refl _ _⟩
theorem info_Try : (Try.prog.info? 47).map (fun i => (i.zero, i.size, i.bytes)) = some (some (.agg #[.int .i64 0, .bool false]), 2, 16) := by kernel_rfl
theorem make_Try (len : Nat) (w : World) (h : len ≤ 1048576) : ∃ w1 C, (Instr.makeSlice 34 (.int .i64 (len : Int)) (.int .i64 (len : Int))).run Try.prog w = .ok (.slice (some ⟨w.heap.size, 0, none⟩) len len) w1 ∧
    Below w.heap.size w w1 ∧ RowIs w1 w.heap.size C 47 ∧ C.size = len * 2 := by
  obtain ⟨i, h1, h2⟩ := Option.map_eq_some_iff.1 info_Try
  simp only [Prod.mk.injEq] at h2
  obtain ⟨hz, hsz, hby⟩ := h2
  have hr := run_make (P := Try.prog) w 34 47 i _ Try.underlying34 h1 hz .i64 .i64 (len : Int) (len : Int) (by omega) (by omega) (by rw [hby]; omega) (by omega)
  rw [Int.toNat_natCast, hsz] at hr
  exact ⟨_, _, hr, bAl (Below.refl _ _) _, RowIs.new _ _ _, size_madeCells _ _⟩
def FilledTry (C : Array Value) (l : List TryT) (k : Nat) : Prop := ∀ i (h : i < l.length), i < k → C[i * 2]? = some (.int .i64 l[i].f0) ∧ C[i * 2 + 1]? = some (.bool l[i].f1)
def setTry (C : Array Value) (k : Nat) (x : TryT) : Array Value := ((C.setIfInBounds (k * 2) (.int .i64 x.f0)).setIfInBounds (k * 2 + 1) (.bool x.f1))
theorem size_setTry (C : Array Value) (k : Nat) (x : TryT) : (setTry C k x).size = C.size := by simp [setTry]
theorem FilledTry.set {C : Array Value} {l : List TryT} {k : Nat} (h : FilledTry C l k) (hk : k < l.length) (hC : C.size = l.length * 2) : FilledTry (setTry C k l[k]) l (k + 1) := by
  intro i hi hik
  unfold setTry
  by_cases e : i = k
  · subst e
    have s0 : i * 2 < C.size := by omega
    have s1 : i * 2 + 1 < C.size := by omega
    simp [s0, s1]
  · have := h i hi (by omega)
    simp only [Array.getElem?_setIfInBounds]
    repeat rw [if_neg (by omega)]
    exact this
theorem FilledTry.row {w : World} {b : Nat} {C : Array Value} {T : TypeId} {l : List TryT} (h : FilledTry C l l.length) (hr : RowIs w b C T) : TryRow w b 0 l :=
  ⟨hr.lt, fun i hi => by rw [Nat.zero_add, hr.cell]; exact (h i hi hi).1, fun i hi => by rw [Nat.zero_add, hr.cell]; exact (h i hi hi).2⟩
set_option maxRecDepth 100000 in
set_option maxHeartbeats 1000000 in
theorem toTryS_own (a : Option Addr) (len cap : Nat) (l : List TryT) (w : World) (hl : len ≤ 1048576) (hs : SlTry w a len l) :
    Calls Try.prog 11 #[.slice a len cap] w fun e w' => e = .returned (.slice (some ⟨w.heap.size, 0, none⟩) len len) ∧ (∃ C, RowIs w' w.heap.size C 47 ∧ C.size = len * 2 ∧ TryRow w' w.heap.size 0 l) ∧ Below w.heap.size w w' := by
  obtain ⟨w1, C1, hrun, hb1, hr1, hC1⟩ := make_Try len w hl
  have HS := hide hs
  have HB1 := hide hb1
  have HR1 := hide hr1
  clear hs hb1 hr1
  go_enter Try.func11, Try.ntmps11
  go_wp2
  clear hrun
  go_loopw [4] (fun i w' => ∃ (k : Nat) (C : Array Value), k ≤ len ∧ i = .int .i64 k ∧ Hid (Below w.heap.size w w') ∧ Hid (RowIs w' w.heap.size C 47) ∧ Hid (C.size = len * 2) ∧ Hid (FilledTry C l k)) (fun i _ => len - (Go.RowKit.intOf i).toNat)
  case atStart => exact ⟨0, C1, Nat.zero_le _, rfl, HB1, HR1, hide hC1, hide (fun i _ h => absurd h (Nat.not_lt_zero _))⟩
  case round =>
    obtain ⟨k, C, hk, rfl, hb, hr, hC, hF⟩ := hrel
    by_cases hlt : k < len
    · obtain ⟨b, off, rfl, hrow⟩ := ((unhide HS).keep (unhide hb)).at hlt
      have hk' : k < l.length := by rw [← (unhide HS).1]; exact hlt
      have c0 := hrow.c0 k hk'
      have c1 := hrow.c1 k hk'
      have hF' := hide ((unhide hF).set hk' (by rw [unhide hC, (unhide HS).1]))
      clear hrow hC1
      generalize l[k] = A at c0 c1 hF'
      go_wp2_with fail
      refine (toTry_any A.f0 A.f1 _).mono ?_
      rintro e w2 ⟨rfl, hb2⟩
      replace hr := hide ((unhide hr).keep hb2)
      replace hb := hide (bTr (unhide hb) hb2)
      have s9 : k * 2 + 1 < C.size := by rw [unhide hC]; omega
      obtain ⟨D0, d0⟩ : ∃ D, C[k * 2]? = some D := ⟨_, Array.getElem?_eq_getElem (by omega)⟩
      have g0 := (unhide hr).at d0
      have y0 := (unhide hr).froz (k * 2)
      clear d0
      obtain ⟨D1, d1⟩ : ∃ D, C[k * 2 + 1]? = some D := ⟨_, Array.getElem?_eq_getElem (by omega)⟩
      have g1 := (unhide hr).at d1
      have y1 := (unhide hr).froz (k * 2 + 1)
      clear d1
      clear c0 c1 hb2
      go_wp2_with fail
      refine ⟨⟨k + 1, setTry C k A, by omega, by go_num, hide ?_, hide ?_, hide (by rw [size_setTry]; exact unhide hC), hF'⟩, by simp [Go.RowKit.intOf]; omega⟩
      · repeat refine bStTry ?_ _ _ (Nat.le_refl _) _
        exact unhide hb
      · exact ((unhide hr).set _ _).set _ _
    · go_wp2_with fail
      go_ret
      have e : k = l.length := by rw [← (unhide HS).1]; omega
      exact ⟨rfl, ⟨C, unhide hr, unhide hC, FilledTry.row (by rw [← e]; exact unhide hF) (unhide hr)⟩, unhide hb⟩
set_option maxHeartbeats 1000000 in
theorem eqTryS_same (a1 a2 : Option Addr) (len1 c1 len2 c2 : Nat) (l : List TryT) (w : World) (h1 : SlTry w a1 len1 l) (h2 : SlTry w a2 len2 l) (hm : len1 ≤ maxLen) :
    Calls Try.prog 14 #[.slice a1 len1 c1, .slice a2 len2 c2] w fun e w' => e = .returned (.bool true) ∧ Below w.heap.size w w' := by
  unfold maxLen at hm
  obtain rfl : len1 = len2 := by rw [h1.1, h2.1]
  have H1 := hide h1
  have H2 := hide h2
  clear h1 h2
  go_enter Try.func14, Try.ntmps14
  go_wp2
  go_loopw [5] (fun i w' => ∃ k : Nat, k ≤ len1 ∧ i = .int .i64 k ∧ Below w.heap.size w w') (fun i _ => len1 - (Go.RowKit.intOf i).toNat)
  case atStart => exact ⟨0, Nat.zero_le _, rfl, Below.refl _ _⟩
  case round =>
    obtain ⟨k, hk, rfl, hbel⟩ := hrel
    by_cases hlt : k < len1
    · have g1 := hide ((unhide H1).keep hbel)
      have g2 := hide ((unhide H2).keep hbel)
      have hk' : k < l.length := by rw [← (unhide H1).1]; exact hlt
      obtain ⟨b, off, rfl, r1⟩ := (unhide g1).at hlt
      obtain ⟨b', off', rfl, r2⟩ := (unhide g2).at hlt
      have p0 := r1.c0 k hk'
      have p1 := r1.c1 k hk'
      have q0 := r2.c0 k hk'
      have q1 := r2.c1 k hk'
      have z1 := r1.z
      have z2 := r2.z
      clear r1 r2 g1 g2
      generalize l[k] = A at p0 p1 q0 q1
      have ne : Nonempty (Kept wr) := ⟨⟨wr, Below.refl _ _⟩⟩
      have x0 := kept_cell z1 p0
      have x1 := kept_cell z1 p1
      have y0 := kept_cell z2 q0
      have y1 := kept_cell z2 q1
      have i0 : (0 : Int) ≤ (k : Int) := by omega
      have i1 : (k : Int) < (len1 : Int) := by omega
      go_wp2_with fail
      refine wp_region_kept (by kernel_rfl) (by kernel_rfl) ?_
      repeat (first
        | go_big_quiet_step ((go_at_call 24; exact kept_call (eqTry_same _ _ _)))
        | quiet_step ((go_at_call 24; exact kept_call (eqTry_same _ _ _))))
      refine wpQuiet_nil ?_
      rintro _ ⟨q, rfl⟩
      clear ne x0 x1 y0 y1
      obtain ⟨w3, hb3⟩ := q
      go_wp2_with fail
      exact ⟨⟨k + 1, by omega, by go_num, bTr hbel hb3⟩, by simp [Go.RowKit.intOf]; omega⟩
    · go_wp2_with fail
      go_ret
      exact ⟨rfl, hbel⟩
def TrysV (l : List TryT) : List Value := l.flatMap encTry
theorem TrysV_snoc (l : List TryT) (c : TryT) : TrysV (l ++ [c]) = TrysV l ++ encTry c := by simp [TrysV]
theorem encTry_one (c : TryT) : ∀ x ∈ encTry c, x.oneCell' = true := by
  intro x hx
  simp [encTry] at hx
  rcases hx with rfl | rfl <;> rfl
theorem TrysV_get : ∀ (l : List TryT) (i : Nat) (h : i < l.length) (j : Nat) (v : Value), (encTry l[i])[j]? = some v → (TrysV l)[i * 2 + j]? = some v
  | [], i, h, _, _, _ => absurd h (Nat.not_lt_zero _)
  | c :: l, 0, _, j, v, hv => by
    have hj := (List.getElem?_eq_some_iff.1 hv).1
    have e : TrysV (c :: l) = encTry c ++ TrysV l := by simp [TrysV]
    rw [e, List.getElem?_append_left (by simpa using hj)]
    simpa using hv
  | c :: l, i + 1, h, j, v, hv => by
    have e : TrysV (c :: l) = encTry c ++ TrysV l := by simp [TrysV]
    have hl : (encTry c).length = 2 := rfl
    rw [e, List.getElem?_append_right (by rw [hl]; omega), hl, show (i + 1) * 2 + j - 2 = i * 2 + j by omega]
    exact TrysV_get l i (by simpa using h) j v (by simpa using hv)
theorem own_Try {w : World} {base : Nat} {v : Value} {l : List TryT} (h : w.ownsRow base 47 2 v l.length (TrysV l)) : ∃ a cap, v = .slice a l.length cap ∧ SlTry w a l.length l := by
  rcases h.2 with ⟨rfl, e⟩ | ⟨g, cap, cur, rfl, _, hh, _, _, hsz, htk⟩
  · have : l = [] := List.length_eq_zero_iff.1 e
    subst this
    exact ⟨none, 0, rfl, rfl, .inl rfl⟩
  · have hr : RowIs w g cur 47 := hh
    have hc : ∀ i (hi : i < l.length) j u, (encTry l[i])[j]? = some u → w.cell? ⟨g, 0 + i * 2 + j, none⟩ = some u := fun i hi j u hu => by
      have hu2 := TrysV_get l i hi j u hu
      rw [← htk, List.getElem?_take] at hu2
      rw [Nat.zero_add, hr.cell, ← Array.getElem?_toList]
      split at hu2
      · exact hu2
      · cases hu2
    exact ⟨_, _, rfl, rfl, .inr ⟨g, 0, rfl, hr.lt, fun i hi => hc i hi 0 _ rfl, fun i hi => hc i hi 1 _ rfl⟩⟩
theorem eqOwnTry {w : World} {b1 b2 : Nat} {v1 v2 : Value} {l : List TryT} (h1 : w.ownsRow b1 47 2 v1 l.length (TrysV l)) (h2 : w.ownsRow b2 47 2 v2 l.length (TrysV l)) (hl : l.length ≤ 1000000) :
    Calls Try.prog 14 #[v1, v2] w fun e w' => e = .returned (.bool true) ∧ Below w.heap.size w w' := by
  obtain ⟨a1, c1, rfl, s1⟩ := own_Try h1
  obtain ⟨a2, c2, rfl, s2⟩ := own_Try h2
  exact eqTryS_same a1 a2 l.length c1 l.length c2 l w s1 s2 (by unfold maxLen; omega)
theorem listnTry {α : Type} {l : List α} (h : l.length = 2) : ∃ a0 a1, l = [a0, a1] := by
  match l, h with
  | [a0, a1], _ => exact ⟨a0, a1, rfl⟩
section
variable {H : Type} {enc : TypeId × Value → H} {w : World} {base : Nat} {sp : Nat → Bool} {held : Bool}
theorem addr_Try (b off k : Nat) : (⟨b, off, none⟩ : Addr).add k = ⟨b, off + k, none⟩ := by
  unfold Addr.add; split <;> simp_all
set_option maxRecDepth 100000 in
theorem read_Try {n : Nat} {cs : List Value} {x : DataW H × List MemPlace} (h : DataW.trod enc Try.prog w base sp held n 49 cs = some x) : ∃ A : TryT, cs = [.int .i64 A.f0, .bool A.f1] ∧ A.Ok := by
  obtain ⟨xs, m, rfl, _, hlen, hx, hf⟩ := DataW.trod_struct Try.underlying49 h
  have hc : Try.prog.cellsOf 49 = 2 := by kernel_rfl
  have k9 : Try.prog.cellsOf 9 = 1 := by kernel_rfl
  have k3 : Try.prog.cellsOf 3 = 1 := by kernel_rfl
  have k4 : Try.prog.cellsOf 4 = 1 := by kernel_rfl
  obtain ⟨c0, c1, rfl⟩ := listnTry (hlen.trans hc)
  obtain ⟨x0, x1, rfl⟩ := listnTry hx
  have h0 : DataW.trod enc Try.prog w base sp held m 3 [c0] = some x0 := by have := hf 0 _ rfl; simpa [k9, k3, k4] using this
  obtain ⟨y0, e0, _, ok0⟩ := DataW.trod_int Try.underlying3 h0
  have h1 : DataW.trod enc Try.prog w base sp held m 4 [c1] = some x1 := by have := hf 1 _ rfl; simpa [k9, k3, k4] using this
  obtain ⟨y1, e1, _⟩ := DataW.trod_bool Try.underlying4 h1
  have ok1 := trivial
  simp at e0 e1
  subst e0 e1
  exact ⟨⟨y0, y1⟩, rfl, ok0, ok1⟩
set_option maxRecDepth 100000 in
theorem reads_Try {n len cap : Nat} {a : Option Addr} {x : DataW H × List MemPlace} (h : DataW.trod enc Try.prog w base sp held n 30 [.slice a len cap] = some x) :
    ∃ l : List TryT, SlTry w a len l ∧ (∀ q ∈ l, TryT.Ok q) ∧ len ≤ maxLen := by
  have hc : Try.prog.cellsOf 49 = 2 := by kernel_rfl
  rcases Go.Deep.open_slice Try.underlying30 h with ⟨hcs, _⟩ | ⟨a', len', cap', m, n', D, Pl, hcs, _, hl, hm, hmm, _, hel⟩
  · simp at hcs
    obtain ⟨rfl, rfl, rfl⟩ := hcs
    exact ⟨[], ⟨rfl, .inl rfl⟩, by simp, Nat.zero_le _⟩
  · simp at hcs
    obtain ⟨rfl, rfl, rfl⟩ := hcs
    have hlm : len ≤ m := by rw [hmm]; split <;> omega
    by_cases h0 : len = 0
    · subst h0; exact ⟨[], ⟨rfl, .inl rfl⟩, by simp, Nat.zero_le _⟩
    have hspot : a'.spot = none := by
      obtain ⟨cs', h1, h2⟩ := hel 0 (by omega)
      rw [hc] at h1
      obtain ⟨A, rfl, _⟩ := read_Try h2
      have e0 := (World.cells?_some h1).2.2 0 (by omega)
      simp [Addr.add] at e0
      exact World.cell?_spot e0
    obtain ⟨b, off, spot⟩ := a'
    simp only at hspot
    subst hspot
    have hA : ∀ i, i < len → ∃ A : TryT, A.Ok ∧ (w.cell? ⟨b, off + i * 2, none⟩ = some (.int .i64 A.f0) ∧ w.cell? ⟨b, off + i * 2 + 1, none⟩ = some (.bool A.f1)) ∧ b < w.heap.size := by
      intro i hi
      obtain ⟨cs', h1, h2⟩ := hel i (by omega)
      rw [hc, addr_Try] at h1
      obtain ⟨A, rfl, hok⟩ := read_Try h2
      have h3 := (World.cells?_some h1).2.2
      have e0 := h3 0 (by omega)
      have e1 := h3 1 (by omega)
      rw [addr_Try] at e0 e1
      exact ⟨A, hok, ⟨e0, e1⟩, World.block_lt_of_cell? w ⟨b, off + i * 2 + 0, none⟩ e0⟩
    obtain ⟨f, hf⟩ := @Go.Deep.choose_lt TryT ⟨⟨0, false⟩⟩ len (fun i A => A.Ok ∧ (w.cell? ⟨b, off + i * 2, none⟩ = some (.int .i64 A.f0) ∧ w.cell? ⟨b, off + i * 2 + 1, none⟩ = some (.bool A.f1)) ∧ b < w.heap.size) hA
    refine ⟨(List.range len).map f, ⟨by simp, .inr ⟨b, off, rfl, (hf 0 (by omega)).2.2, fun i hi => ?_, fun i hi => ?_⟩⟩, ?_, by omega⟩
    · simp at hi
      have := (hf i hi).2.1.1
      simpa using this
    · simp at hi
      have := (hf i hi).2.1.2
      simpa using this
    · intro q hq
      simp at hq
      obtain ⟨i, hi, rfl⟩ := hq
      exact (hf i hi).1
set_option maxRecDepth 100000 in
/-- A slice that came in. -/
theorem read_Trys {r : Reach} {b0 : Nat} {v0 : Value} {d : DataW H} {p : List MemPlace} (hv : Value.okWide Try.prog w r b0 30 v0) (h : DataW.Trod enc Try.prog w base sp held 30 v0 d p) :
    ∃ (l : List TryT) (a : Option Addr) (len cap : Nat), v0 = .slice a len cap ∧ SlTry w a len l ∧ (∀ q ∈ l, TryT.Ok q) ∧ len ≤ maxLen := by
  obtain ⟨fuel, hf0⟩ := h
  obtain ⟨a, len, cap, rfl⟩ := okWide_slice Try.underlying30 hv
  obtain ⟨l, h1, h2, h3⟩ := reads_Try hf0
  exact ⟨l, a, len, cap, rfl, h1, h2, h3⟩
end
end Go.Proofs.Ytdfjhnfidbkdpaa
