/- Slices of impl.Share: in memory, read, sized, copied, held against each other. -/
import Derived.Test.YtoakdagncfaplaaDoorGBase
import Derived.ProofKit
import Derived.Deep.Slices
import Derived.Laws.MakeOwn
import Derived.OwnWalk
namespace Go.Proofs.YtoakdagncfaplaaDoor
open Go.ChangeShapes Go.WideShapes Go.RowKit

structure ShareT where
  f0 : Int
  f1 : Int
structure ShareT.Ok (x : ShareT) : Prop where
  o0 : (Lit.int .i64 x.f0).wf = true
  o1 : (Lit.int .i64 x.f1).wf = true
def encShare (x : ShareT) : List Value := [.int .i64 x.f0, .int .i64 x.f1]
structure ShareRow (w : World) (b off : Nat) (l : List ShareT) : Prop where
  z : b < w.heap.size
  c0 : ∀ i (h : i < l.length), w.cell? ⟨b, off + i * 2, none⟩ = some (.int .i64 l[i].f0)
  c1 : ∀ i (h : i < l.length), w.cell? ⟨b, off + i * 2 + 1, none⟩ = some (.int .i64 l[i].f1)
theorem ShareRow.keep {w w1 : World} {b off : Nat} {l : List ShareT} (h : ShareRow w b off l) (hb : Below w.heap.size w w1) : ShareRow w1 b off l :=
  ⟨Nat.lt_of_lt_of_le h.z hb.size, fun i hi => cellB hb h.z (h.c0 i hi), fun i hi => cellB hb h.z (h.c1 i hi)⟩
def SlShare (w : World) (a : Option Addr) (len : Nat) (l : List ShareT) : Prop := len = l.length ∧ (l = [] ∨ ∃ b off, a = some ⟨b, off, none⟩ ∧ ShareRow w b off l)
theorem SlShare.keep {w w1 : World} {a : Option Addr} {len : Nat} {l : List ShareT} (h : SlShare w a len l) (hb : Below w.heap.size w w1) : SlShare w1 a len l :=
  ⟨h.1, by
    rcases h.2 with e | ⟨b, off, e, r⟩
    · exact .inl e
    · exact .inr ⟨b, off, e, r.keep hb⟩⟩
theorem SlShare.at {w : World} {a : Option Addr} {len : Nat} {l : List ShareT} (h : SlShare w a len l) {k : Nat} (hk : k < len) : ∃ b off, a = some ⟨b, off, none⟩ ∧ ShareRow w b off l := by
  rcases h.2 with e | e
  · rw [h.1, e] at hk; simp at hk
  · exact e
theorem bStShare {w w' : World} (h : Below w.heap.size w w') (b o : Nat) (hb : w.heap.size ≤ b) (v : Value) : Below w.heap.size w (w'.setCell ⟨b, o, none⟩ v) := h.setCell hb v
theorem info_Share : (Tryd.prog.info? 28).map (fun i => (i.zero, i.size, i.bytes)) = some (some (.agg #[.int .i64 0, .int .i64 0]), 2, 16) := by kernel_rfl
theorem make_Share (len : Nat) (w : World) (h : len ≤ 1048576) : ∃ w1 C, (Instr.makeSlice 25 (.int .i64 (len : Int)) (.int .i64 (len : Int))).run Tryd.prog w = .ok (.slice (some ⟨w.heap.size, 0, none⟩) len len) w1 ∧
    Below w.heap.size w w1 ∧ RowIs w1 w.heap.size C 28 ∧ C.size = len * 2 := by
  obtain ⟨i, h1, h2⟩ := Option.map_eq_some_iff.1 info_Share
  simp only [Prod.mk.injEq] at h2
  obtain ⟨hz, hsz, hby⟩ := h2
  have hr := run_make (P := Tryd.prog) w 25 28 i _ Tryd.underlying25 h1 hz .i64 .i64 (len : Int) (len : Int) (by omega) (by omega) (by rw [hby]; omega) (by omega)
  rw [Int.toNat_natCast, hsz] at hr
  exact ⟨_, _, hr, bAl (Below.refl _ _) _, RowIs.new _ _ _, size_madeCells _ _⟩
def FilledShare (C : Array Value) (l : List ShareT) (k : Nat) : Prop := ∀ i (h : i < l.length), i < k → C[i * 2]? = some (.int .i64 l[i].f0) ∧ C[i * 2 + 1]? = some (.int .i64 l[i].f1)
def setShare (C : Array Value) (k : Nat) (x : ShareT) : Array Value := ((C.setIfInBounds (k * 2) (.int .i64 x.f0)).setIfInBounds (k * 2 + 1) (.int .i64 x.f1))
theorem size_setShare (C : Array Value) (k : Nat) (x : ShareT) : (setShare C k x).size = C.size := by simp [setShare]
theorem FilledShare.set {C : Array Value} {l : List ShareT} {k : Nat} (h : FilledShare C l k) (hk : k < l.length) (hC : C.size = l.length * 2) : FilledShare (setShare C k l[k]) l (k + 1) := by
  intro i hi hik
  unfold setShare
  by_cases e : i = k
  · subst e
    have s0 : i * 2 < C.size := by omega
    have s1 : i * 2 + 1 < C.size := by omega
    simp [s0, s1]
  · have := h i hi (by omega)
    simp only [Array.getElem?_setIfInBounds]
    repeat rw [if_neg (by omega)]
    exact this
theorem FilledShare.row {w : World} {b : Nat} {C : Array Value} {T : TypeId} {l : List ShareT} (h : FilledShare C l l.length) (hr : RowIs w b C T) : ShareRow w b 0 l :=
  ⟨hr.lt, fun i hi => by rw [Nat.zero_add, hr.cell]; exact (h i hi hi).1, fun i hi => by rw [Nat.zero_add, hr.cell]; exact (h i hi hi).2⟩
def SharesV (l : List ShareT) : List Value := l.flatMap encShare
theorem SharesV_snoc (l : List ShareT) (c : ShareT) : SharesV (l ++ [c]) = SharesV l ++ encShare c := by simp [SharesV]
theorem encShare_one (c : ShareT) : ∀ x ∈ encShare c, x.oneCell' = true := by
  intro x hx
  simp [encShare] at hx
  rcases hx with rfl | rfl <;> rfl
theorem SharesV_get : ∀ (l : List ShareT) (i : Nat) (h : i < l.length) (j : Nat) (v : Value), (encShare l[i])[j]? = some v → (SharesV l)[i * 2 + j]? = some v
  | [], i, h, _, _, _ => absurd h (Nat.not_lt_zero _)
  | c :: l, 0, _, j, v, hv => by
    have hj := (List.getElem?_eq_some_iff.1 hv).1
    have e : SharesV (c :: l) = encShare c ++ SharesV l := by simp [SharesV]
    rw [e, List.getElem?_append_left (by simpa using hj)]
    simpa using hv
  | c :: l, i + 1, h, j, v, hv => by
    have e : SharesV (c :: l) = encShare c ++ SharesV l := by simp [SharesV]
    have hl : (encShare c).length = 2 := rfl
    rw [e, List.getElem?_append_right (by rw [hl]; omega), hl, show (i + 1) * 2 + j - 2 = i * 2 + j by omega]
    exact SharesV_get l i (by simpa using h) j v (by simpa using hv)
theorem own_Share {w : World} {base : Nat} {v : Value} {l : List ShareT} (h : w.ownsRow base 28 2 v l.length (SharesV l)) : ∃ a cap, v = .slice a l.length cap ∧ SlShare w a l.length l := by
  rcases h.2 with ⟨rfl, e⟩ | ⟨g, cap, cur, rfl, _, hh, _, _, hsz, htk⟩
  · have : l = [] := List.length_eq_zero_iff.1 e
    subst this
    exact ⟨none, 0, rfl, rfl, .inl rfl⟩
  · have hr : RowIs w g cur 28 := hh
    have hc : ∀ i (hi : i < l.length) j u, (encShare l[i])[j]? = some u → w.cell? ⟨g, 0 + i * 2 + j, none⟩ = some u := fun i hi j u hu => by
      have hu2 := SharesV_get l i hi j u hu
      rw [← htk, List.getElem?_take] at hu2
      rw [Nat.zero_add, hr.cell, ← Array.getElem?_toList]
      split at hu2
      · exact hu2
      · cases hu2
    exact ⟨_, _, rfl, rfl, .inr ⟨g, 0, rfl, hr.lt, fun i hi => hc i hi 0 _ rfl, fun i hi => hc i hi 1 _ rfl⟩⟩
theorem listnShare {α : Type} {l : List α} (h : l.length = 2) : ∃ a0 a1, l = [a0, a1] := by
  match l, h with
  | [a0, a1], _ => exact ⟨a0, a1, rfl⟩
section
variable {H : Type} {enc : TypeId × Value → H} {w : World} {base : Nat} {sp : Nat → Bool} {held : Bool}
theorem addr_Share (b off k : Nat) : (⟨b, off, none⟩ : Addr).add k = ⟨b, off + k, none⟩ := by
  unfold Addr.add; split <;> simp_all
end
end Go.Proofs.YtoakdagncfaplaaDoor
