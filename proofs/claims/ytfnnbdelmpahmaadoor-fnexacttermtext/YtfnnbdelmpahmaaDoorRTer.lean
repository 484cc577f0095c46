/- Slices of impl.CavTerm: in memory, read, sized, copied, held against each other. -/
import Derived.Test.YtfnnbdelmpahmaaDoorRPar
import Derived.Test.YtfnnbdelmpahmaaDoorWSli
import Derived.Test.YtfnnbdelmpahmaaDoorWEq
import Derived.ProofKit
import Derived.Deep.Slices
import Derived.Laws.MakeOwn
import Derived.OwnWalk
namespace Go.Proofs.YtfnnbdelmpahmaaDoor.V
open Go.ChangeShapes Go.WideShapes Go.RowKit

structure CavTermT where
  f0 : ByteArray
  f1 : Int
  f2 : ByteArray
  f3 : Int
  f4 : Int
  f5 : ByteArray
  f6 : ByteArray
structure CavTermT.Ok (x : CavTermT) : Prop where
  o0 : x.f0.size ≤ maxLen
  o1 : (Lit.int .i64 x.f1).wf = true
  o2 : x.f2.size ≤ maxLen
  n8 : -9223372036854775808 ≤ x.f4
  n9 : x.f4 ≤ 9223372036854775807
  o5 : x.f5.size ≤ maxLen
  o6 : x.f6.size ≤ maxLen
def encCavTerm (x : CavTermT) : List Value := [.string x.f0, .int .i64 x.f1, .string x.f2, .int .i64 x.f3, .int .i64 x.f4, .string x.f5, .string x.f6]
structure CavTermRow (w : World) (b off : Nat) (l : List CavTermT) : Prop where
  z : b < w.heap.size
  c0 : ∀ i (h : i < l.length), w.cell? ⟨b, off + i * 7, none⟩ = some (.string l[i].f0)
  c1 : ∀ i (h : i < l.length), w.cell? ⟨b, off + i * 7 + 1, none⟩ = some (.int .i64 l[i].f1)
  c2 : ∀ i (h : i < l.length), w.cell? ⟨b, off + i * 7 + 2, none⟩ = some (.string l[i].f2)
  c3 : ∀ i (h : i < l.length), w.cell? ⟨b, off + i * 7 + 3, none⟩ = some (.int .i64 l[i].f3)
  c4 : ∀ i (h : i < l.length), w.cell? ⟨b, off + i * 7 + 4, none⟩ = some (.int .i64 l[i].f4)
  c5 : ∀ i (h : i < l.length), w.cell? ⟨b, off + i * 7 + 5, none⟩ = some (.string l[i].f5)
  c6 : ∀ i (h : i < l.length), w.cell? ⟨b, off + i * 7 + 6, none⟩ = some (.string l[i].f6)
theorem CavTermRow.keep {w w1 : World} {b off : Nat} {l : List CavTermT} (h : CavTermRow w b off l) (hb : Below w.heap.size w w1) : CavTermRow w1 b off l :=
  ⟨Nat.lt_of_lt_of_le h.z hb.size, fun i hi => cellB hb h.z (h.c0 i hi), fun i hi => cellB hb h.z (h.c1 i hi), fun i hi => cellB hb h.z (h.c2 i hi), fun i hi => cellB hb h.z (h.c3 i hi), fun i hi => cellB hb h.z (h.c4 i hi), fun i hi => cellB hb h.z (h.c5 i hi), fun i hi => cellB hb h.z (h.c6 i hi)⟩
def SlCavTerm (w : World) (a : Option Addr) (len : Nat) (l : List CavTermT) : Prop := len = l.length ∧ (l = [] ∨ ∃ b off, a = some ⟨b, off, none⟩ ∧ CavTermRow w b off l)
theorem SlCavTerm.keep {w w1 : World} {a : Option Addr} {len : Nat} {l : List CavTermT} (h : SlCavTerm w a len l) (hb : Below w.heap.size w w1) : SlCavTerm w1 a len l :=
  ⟨h.1, by
    rcases h.2 with e | ⟨b, off, e, r⟩
    · exact .inl e
    · exact .inr ⟨b, off, e, r.keep hb⟩⟩
theorem SlCavTerm.at {w : World} {a : Option Addr} {len : Nat} {l : List CavTermT} (h : SlCavTerm w a len l) {k : Nat} (hk : k < len) : ∃ b off, a = some ⟨b, off, none⟩ ∧ CavTermRow w b off l := by
  rcases h.2 with e | e
  · rw [h.1, e] at hk; simp at hk
  · exact e
theorem bStCavTerm {w w' : World} (h : Below w.heap.size w w') (b o : Nat) (hb : w.heap.size ≤ b) (v : Value) : Below w.heap.size w (w'.setCell ⟨b, o, none⟩ v) := h.setCell hb v
set_option maxHeartbeats 1000000 in
theorem toCavTerm_any (f0 : ByteArray) (f1 : Int) (f2 : ByteArray) (f3 : Int) (f4 : Int) (f5 : ByteArray) (f6 : ByteArray) (w : World) :
    Calls Tryd.prog 6 #[.agg #[.string f0, .int .i64 f1, .string f2, .int .i64 f3, .int .i64 f4, .string f5, .string f6]] w fun e w' => e = .returned (.agg #[.string f0, .int .i64 f1, .string f2, .int .i64 f3, .int .i64 f4, .string f5, .string f6]) ∧ Below w.heap.size w w' := by
  go_enter Tryd.func6, Tryd.ntmps6
  go_wp2_with fail
  refine (toAtom_any _ _ _ _ _).mono ?_
  rintro e w1 ⟨rfl, hb1⟩
  have bw := hide (bTr (bAl (bAl (bAl (Below.refl _ _) _) _) _) hb1)
  have ro := ((RowIs.new (w.alloc _) _ _).keep (bAl (Below.refl _ _) _)).keep hb1
  have out := (RowIs.new ((w.alloc _).alloc _) _ _).keep hb1
  simp only [World.size_alloc] at ro out
  clear hb1
  have k0 : w1.cell? ⟨w.heap.size + 1 + 1, 0, none⟩ = some (.string f0) := out.at rfl
  have k1 : w1.cell? ⟨w.heap.size + 1 + 1, 1, none⟩ = some (.int .i64 f1) := out.at rfl
  have k2 : w1.cell? ⟨w.heap.size + 1 + 1, 2, none⟩ = some (.string f2) := out.at rfl
  have k3 : w1.cell? ⟨w.heap.size + 1 + 1, 3, none⟩ = some (.int .i64 0) := out.at rfl
  have k4 : w1.cell? ⟨w.heap.size + 1 + 1, 4, none⟩ = some (.int .i64 0) := out.at rfl
  have k5 : w1.cell? ⟨w.heap.size + 1 + 1, 5, none⟩ = some (.string ⟨#[]⟩) := out.at rfl
  have k6 : w1.cell? ⟨w.heap.size + 1 + 1, 6, none⟩ = some (.string ⟨#[]⟩) := out.at rfl
  have g3 := out.froz 3
  have g4 := out.froz 4
  have g5 := out.froz 5
  have g6 := out.froz 6
  have j0 : w1.cell? ⟨w.heap.size + 1, 0, none⟩ = some (.string ⟨#[]⟩) := ro.at rfl
  have h0 := ro.froz 0
  have j1 : w1.cell? ⟨w.heap.size + 1, 1, none⟩ = some (.int .i64 0) := ro.at rfl
  have h1 := ro.froz 1
  have j2 : w1.cell? ⟨w.heap.size + 1, 2, none⟩ = some (.string ⟨#[]⟩) := ro.at rfl
  have h2 := ro.froz 2
  have j3 : w1.cell? ⟨w.heap.size + 1, 3, none⟩ = some (.int .i64 0) := ro.at rfl
  have h3 := ro.froz 3
  have j4 : w1.cell? ⟨w.heap.size + 1, 4, none⟩ = some (.int .i64 0) := ro.at rfl
  have h4 := ro.froz 4
  have j5 : w1.cell? ⟨w.heap.size + 1, 5, none⟩ = some (.string ⟨#[]⟩) := ro.at rfl
  have h5 := ro.froz 5
  have j6 : w1.cell? ⟨w.heap.size + 1, 6, none⟩ = some (.string ⟨#[]⟩) := ro.at rfl
  have h6 := ro.froz 6
  clear out ro
  go_wp2_with fail
  refine bodyPost_ret (v := .agg #[.string f0, .int .i64 f1, .string f2, .int .i64 f3, .int .i64 f4, .string f5, .string f6]) (by simp [results, Tryd.results6, go_sem, j0, j1, j2, j3, j4, j5, j6]) rfl ⟨rfl, ?_⟩
  (repeat (refine Below.setCell ?_ (by simp; try omega) _))
  exact unhide bw
set_option maxHeartbeats 400000 in
theorem szCavTerm_any (f0 : ByteArray) (f1 : Int) (f2 : ByteArray) (f3 : Int) (f4 : Int) (f5 : ByteArray) (f6 : ByteArray) (l : Int) (w : World) (h0 : 0 ≤ l) (h1 : l ≤ 1048576) (s0 : f0.size ≤ maxLen) (s2 : f2.size ≤ maxLen) (s5 : f5.size ≤ maxLen) (s6 : f6.size ≤ maxLen) :
    Calls Tryd.prog 4 #[.agg #[.string f0, .int .i64 f1, .string f2, .int .i64 f3, .int .i64 f4, .string f5, .string f6], .int .i64 l] w fun e w' => (∃ m : Int, -1 ≤ m ∧ m ≤ l ∧ e = .returned (.int .i64 m)) ∧ Below w.heap.size w w' := by
  have q := hide (fun l w h0 h1 => szAtom_any f3 f4 l f5 f6 w h0 h1 s5 s6)
  clear s5 s6
  unfold maxLen at s0 s2
  by_cases g0 : l < (f0.size : Int)
  · go_enter Tryd.func4, Tryd.ntmps4
    go_wp2_with fail
    go_ret
    exact ⟨⟨_, by omega, by omega, rfl⟩, bAl (Below.refl _ _) _⟩
  have d0 : decide (l - (f0.size : Int) < 0) = false := by simp; omega
  by_cases g1 : l < (f0.size : Int) + f2.size
  · go_enter Tryd.func4, Tryd.ntmps4
    go_wp2_with fail
    go_ret
    exact ⟨⟨_, by omega, by omega, rfl⟩, bAl (Below.refl _ _) _⟩
  have d1 : decide (l - (f0.size : Int) - f2.size < 0) = false := by simp; omega
  go_enter Tryd.func4, Tryd.ntmps4
  go_wp2_with fail
  refine (unhide q _ _ (by omega) (by omega)).mono ?_
  rintro e w1 ⟨⟨m, hm1, hm2, rfl⟩, hb1⟩
  by_cases hm : m < 0
  · go_wp2_with fail
    go_ret
    exact ⟨⟨_, by omega, by omega, rfl⟩, bTr (bAl (Below.refl _ _) _) hb1⟩
  · go_wp2_with fail
    go_ret
    exact ⟨⟨_, by omega, by omega, rfl⟩, bTr (bAl (Below.refl _ _) _) hb1⟩
theorem info_CavTerm : (Tryd.prog.info? 30).map (fun i => (i.zero, i.size, i.bytes)) = some (some (.agg #[.string ByteArray.empty, .int .i64 0, .string ByteArray.empty, .int .i64 0, .int .i64 0, .string ByteArray.empty, .string ByteArray.empty]), 7, 88) := by kernel_rfl
def FilledCavTerm (C : Array Value) (l : List CavTermT) (k : Nat) : Prop := ∀ i (h : i < l.length), i < k → C[i * 7]? = some (.string l[i].f0) ∧ C[i * 7 + 1]? = some (.int .i64 l[i].f1) ∧ C[i * 7 + 2]? = some (.string l[i].f2) ∧ C[i * 7 + 3]? = some (.int .i64 l[i].f3) ∧ C[i * 7 + 4]? = some (.int .i64 l[i].f4) ∧ C[i * 7 + 5]? = some (.string l[i].f5) ∧ C[i * 7 + 6]? = some (.string l[i].f6)
def setCavTerm (C : Array Value) (k : Nat) (x : CavTermT) : Array Value := (((((((C.setIfInBounds (k * 7) (.string x.f0)).setIfInBounds (k * 7 + 1) (.int .i64 x.f1)).setIfInBounds (k * 7 + 2) (.string x.f2)).setIfInBounds (k * 7 + 3) (.int .i64 x.f3)).setIfInBounds (k * 7 + 4) (.int .i64 x.f4)).setIfInBounds (k * 7 + 5) (.string x.f5)).setIfInBounds (k * 7 + 6) (.string x.f6))
theorem size_setCavTerm (C : Array Value) (k : Nat) (x : CavTermT) : (setCavTerm C k x).size = C.size := by simp [setCavTerm]
theorem FilledCavTerm.set {C : Array Value} {l : List CavTermT} {k : Nat} (h : FilledCavTerm C l k) (hk : k < l.length) (hC : C.size = l.length * 7) : FilledCavTerm (setCavTerm C k l[k]) l (k + 1) := by
  intro i hi hik
  unfold setCavTerm
  by_cases e : i = k
  · subst e
    have s0 : i * 7 < C.size := by omega
    have s1 : i * 7 + 1 < C.size := by omega
    have s2 : i * 7 + 2 < C.size := by omega
    have s3 : i * 7 + 3 < C.size := by omega
    have s4 : i * 7 + 4 < C.size := by omega
    have s5 : i * 7 + 5 < C.size := by omega
    have s6 : i * 7 + 6 < C.size := by omega
    simp [s0, s1, s2, s3, s4, s5, s6]
  · have := h i hi (by omega)
    simp only [Array.getElem?_setIfInBounds]
    repeat rw [if_neg (by omega)]
    exact this
theorem FilledCavTerm.row {w : World} {b : Nat} {C : Array Value} {T : TypeId} {l : List CavTermT} (h : FilledCavTerm C l l.length) (hr : RowIs w b C T) : CavTermRow w b 0 l :=
  ⟨hr.lt, fun i hi => by rw [Nat.zero_add, hr.cell]; exact (h i hi hi).1, fun i hi => by rw [Nat.zero_add, hr.cell]; exact (h i hi hi).2.1, fun i hi => by rw [Nat.zero_add, hr.cell]; exact (h i hi hi).2.2.1, fun i hi => by rw [Nat.zero_add, hr.cell]; exact (h i hi hi).2.2.2.1, fun i hi => by rw [Nat.zero_add, hr.cell]; exact (h i hi hi).2.2.2.2.1, fun i hi => by rw [Nat.zero_add, hr.cell]; exact (h i hi hi).2.2.2.2.2.1, fun i hi => by rw [Nat.zero_add, hr.cell]; exact (h i hi hi).2.2.2.2.2.2⟩
def CavTermsV (l : List CavTermT) : List Value := l.flatMap encCavTerm
theorem CavTermsV_snoc (l : List CavTermT) (c : CavTermT) : CavTermsV (l ++ [c]) = CavTermsV l ++ encCavTerm c := by simp [CavTermsV]
theorem encCavTerm_one (c : CavTermT) : ∀ x ∈ encCavTerm c, x.oneCell' = true := by
  intro x hx
  simp [encCavTerm] at hx
  rcases hx with rfl | rfl | rfl | rfl | rfl | rfl | rfl <;> rfl
theorem CavTermsV_get : ∀ (l : List CavTermT) (i : Nat) (h : i < l.length) (j : Nat) (v : Value), (encCavTerm l[i])[j]? = some v → (CavTermsV l)[i * 7 + j]? = some v
  | [], i, h, _, _, _ => absurd h (Nat.not_lt_zero _)
  | c :: l, 0, _, j, v, hv => by
    have hj := (List.getElem?_eq_some_iff.1 hv).1
    have e : CavTermsV (c :: l) = encCavTerm c ++ CavTermsV l := by simp [CavTermsV]
    rw [e, List.getElem?_append_left (by simpa using hj)]
    simpa using hv
  | c :: l, i + 1, h, j, v, hv => by
    have e : CavTermsV (c :: l) = encCavTerm c ++ CavTermsV l := by simp [CavTermsV]
    have hl : (encCavTerm c).length = 7 := rfl
    rw [e, List.getElem?_append_right (by rw [hl]; omega), hl, show (i + 1) * 7 + j - 7 = i * 7 + j by omega]
    exact CavTermsV_get l i (by simpa using h) j v (by simpa using hv)
theorem own_CavTerm {w : World} {base : Nat} {v : Value} {l : List CavTermT} (h : w.ownsRow base 30 7 v l.length (CavTermsV l)) : ∃ a cap, v = .slice a l.length cap ∧ SlCavTerm w a l.length l := by
  rcases h.2 with ⟨rfl, e⟩ | ⟨g, cap, cur, rfl, _, hh, _, _, hsz, htk⟩
  · have : l = [] := List.length_eq_zero_iff.1 e
    subst this
    exact ⟨none, 0, rfl, rfl, .inl rfl⟩
  · have hr : RowIs w g cur 30 := hh
    have hc : ∀ i (hi : i < l.length) j u, (encCavTerm l[i])[j]? = some u → w.cell? ⟨g, 0 + i * 7 + j, none⟩ = some u := fun i hi j u hu => by
      have hu2 := CavTermsV_get l i hi j u hu
      rw [← htk, List.getElem?_take] at hu2
      rw [Nat.zero_add, hr.cell, ← Array.getElem?_toList]
      split at hu2
      · exact hu2
      · cases hu2
    exact ⟨_, _, rfl, rfl, .inr ⟨g, 0, rfl, hr.lt, fun i hi => hc i hi 0 _ rfl, fun i hi => hc i hi 1 _ rfl, fun i hi => hc i hi 2 _ rfl, fun i hi => hc i hi 3 _ rfl, fun i hi => hc i hi 4 _ rfl, fun i hi => hc i hi 5 _ rfl, fun i hi => hc i hi 6 _ rfl⟩⟩
theorem listnCavTerm {α : Type} {l : List α} (h : l.length = 7) : ∃ a0 a1 a2 a3 a4 a5 a6, l = [a0, a1, a2, a3, a4, a5, a6] := by
  match l, h with
  | [a0, a1, a2, a3, a4, a5, a6], _ => exact ⟨a0, a1, a2, a3, a4, a5, a6, rfl⟩
section
variable {H : Type} {enc : TypeId × Value → H} {w : World} {base : Nat} {sp : Nat → Bool} {held : Bool}
theorem addr_CavTerm (b off k : Nat) : (⟨b, off, none⟩ : Addr).add k = ⟨b, off + k, none⟩ := by
  unfold Addr.add; split <;> simp_all
set_option maxRecDepth 100000 in
theorem read_CavTerm {n : Nat} {cs : List Value} {x : DataW H × List MemPlace} (h : DataW.trod enc Tryd.prog w base sp held n 25 cs = some x) : ∃ A : CavTermT, cs = [.string A.f0, .int .i64 A.f1, .string A.f2, .int .i64 A.f3, .int .i64 A.f4, .string A.f5, .string A.f6] ∧ A.Ok := by
  obtain ⟨xs, m, rfl, _, hlen, hx, hf⟩ := DataW.trod_struct Tryd.underlying25 h
  have hc : Tryd.prog.cellsOf 25 = 7 := by kernel_rfl
  have k9 : Tryd.prog.cellsOf 9 = 1 := by kernel_rfl
  have k3 : Tryd.prog.cellsOf 3 = 1 := by kernel_rfl
  have kA : Tryd.prog.cellsOf 23 = 4 := by kernel_rfl
  obtain ⟨c0, c1, c2, c3, c4, c5, c6, rfl⟩ := listnCavTerm (hlen.trans hc)
  obtain ⟨x0, x1, x2, x3, rfl⟩ := list4 hx
  have h0 : DataW.trod enc Tryd.prog w base sp held m 9 [c0] = some x0 := by have := hf 0 _ rfl; simpa [k9, k3, kA] using this
  have h1 : DataW.trod enc Tryd.prog w base sp held m 3 [c1] = some x1 := by have := hf 1 _ rfl; simpa [k9, k3, kA] using this
  have h2 : DataW.trod enc Tryd.prog w base sp held m 9 [c2] = some x2 := by have := hf 2 _ rfl; simpa [k9, k3, kA] using this
  have h3 : DataW.trod enc Tryd.prog w base sp held m 23 [c3, c4, c5, c6] = some x3 := by have := hf 3 _ rfl; simpa [k9, k3, kA] using this
  obtain ⟨y0, e0, _, ok0⟩ := DataW.trod_string Tryd.underlying9 h0
  obtain ⟨y1, e1, _, ok1⟩ := DataW.trod_int Tryd.underlying3 h1
  obtain ⟨y2, e2, _, ok2⟩ := DataW.trod_string Tryd.underlying9 h2
  obtain ⟨B, e3, okB⟩ := read_atom h3
  simp at e0 e1 e2 e3
  subst e0 e1 e2
  obtain ⟨rfl, rfl, rfl, rfl⟩ := e3
  exact ⟨⟨y0, y1, y2, B.x, B.n, B.t, B.y⟩, rfl, ⟨ok0, ok1, ok2, okB.n8, okB.n9, okB.t9, okB.y9⟩⟩
end
end Go.Proofs.YtfnnbdelmpahmaaDoor.V
