/- Slices of impl.Try: in memory, read, sized, copied, held against each other. -/
import Derived.Test.YtgdpbdgbkeghlaaGBase
import Derived.ProofKit
import Derived.Deep.Slices
import Derived.Laws.MakeOwn
import Derived.OwnWalk
namespace Go.Proofs.Ytgdpbdgbkeghlaa
open Go.ChangeShapes Go.WideShapes Go.RowKit

structure TryT where
  f0 : Int
  f1 : Bool
structure TryT.Ok (x : TryT) : Prop where
  o0 : (Lit.int .i64 x.f0).wf = true
  o1 : True
def encTry (x : TryT) : List Value := [.int .i64 x.f0, .bool x.f1]
structure TryRow (w : World) (b off : Nat) (l : List TryT) : Prop where
  z : b < w.heap.size
  c0 : ∀ i (h : i < l.length), w.cell? ⟨b, off + i * 2, none⟩ = some (.int .i64 l[i].f0)
  c1 : ∀ i (h : i < l.length), w.cell? ⟨b, off + i * 2 + 1, none⟩ = some (.bool l[i].f1)
theorem TryRow.keep {w w1 : World} {b off : Nat} {l : List TryT} (h : TryRow w b off l) (hb : Below w.heap.size w w1) : TryRow w1 b off l :=
  ⟨Nat.lt_of_lt_of_le h.z hb.size, fun i hi => cellB hb h.z (h.c0 i hi), fun i hi => cellB hb h.z (h.c1 i hi)⟩
def SlTry (w : World) (a : Option Addr) (len : Nat) (l : List TryT) : Prop := len = l.length ∧ (l = [] ∨ ∃ b off, a = some ⟨b, off, none⟩ ∧ TryRow w b off l)
theorem SlTry.keep {w w1 : World} {a : Option Addr} {len : Nat} {l : List TryT} (h : SlTry w a len l) (hb : Below w.heap.size w w1) : SlTry w1 a len l :=
  ⟨h.1, by
    rcases h.2 with e | ⟨b, off, e, r⟩
    · exact .inl e
    · exact .inr ⟨b, off, e, r.keep hb⟩⟩
theorem SlTry.at {w : World} {a : Option Addr} {len : Nat} {l : List TryT} (h : SlTry w a len l) {k : Nat} (hk : k < len) : ∃ b off, a = some ⟨b, off, none⟩ ∧ TryRow w b off l := by
  rcases h.2 with e | e
  · rw [h.1, e] at hk; simp at hk
  · exact e
theorem bStTry {w w' : World} (h : Below w.heap.size w w') (b o : Nat) (hb : w.heap.size ≤ b) (v : Value) : Below w.heap.size w (w'.setCell ⟨b, o, none⟩ v) := h.setCell hb v
theorem info_Try : (Try.prog.info? 31).map (fun i => (i.zero, i.size, i.bytes)) = some (some (.agg #[.int .i64 0, .bool false]), 2, 16) := by kernel_rfl
theorem make_Try (len : Nat) (w : World) (h : len ≤ 1048576) : ∃ w1 C, (Instr.makeSlice 23 (.int .i64 (len : Int)) (.int .i64 (len : Int))).run Try.prog w = .ok (.slice (some ⟨w.heap.size, 0, none⟩) len len) w1 ∧
    Below w.heap.size w w1 ∧ RowIs w1 w.heap.size C 31 ∧ C.size = len * 2 := by
  obtain ⟨i, h1, h2⟩ := Option.map_eq_some_iff.1 info_Try
  simp only [Prod.mk.injEq] at h2
  obtain ⟨hz, hsz, hby⟩ := h2
  have hr := run_make (P := Try.prog) w 23 31 i _ Try.underlying23 h1 hz .i64 .i64 (len : Int) (len : Int) (by omega) (by omega) (by rw [hby]; omega) (by omega)
  rw [Int.toNat_natCast, hsz] at hr
  exact ⟨_, _, hr, bAl (Below.refl _ _) _, RowIs.new _ _ _, size_madeCells _ _⟩
def FilledTry (C : Array Value) (l : List TryT) (k : Nat) : Prop := ∀ i (h : i < l.length), i < k → C[i * 2]? = some (.int .i64 l[i].f0) ∧ C[i * 2 + 1]? = some (.bool l[i].f1)
def setTry (C : Array Value) (k : Nat) (x : TryT) : Array Value := ((C.setIfInBounds (k * 2) (.int .i64 x.f0)).setIfInBounds (k * 2 + 1) (.bool x.f1))
theorem size_setTry (C : Array Value) (k : Nat) (x : TryT) : (setTry C k x).size = C.size := by simp [setTry]
theorem FilledTry.set {C : Array Value} {l : List TryT} {k : Nat} (h : FilledTry C l k) (hk : k < l.length) (hC : C.size = l.length * 2) : FilledTry (setTry C k l[k]) l (k + 1) := by
  intro i hi hik
  unfold setTry
  by_cases e : i = k
  · subst e
    have s0 : i * 2 < C.size := by omega
    have s1 : i * 2 + 1 < C.size := by omega
    simp [s0, s1]
  · have := h i hi (by omega)
    simp only [Array.getElem?_setIfInBounds]
    repeat rw [if_neg (by omega)]
    exact this
theorem FilledTry.row {w : World} {b : Nat} {C : Array Value} {T : TypeId} {l : List TryT} (h : FilledTry C l l.length) (hr : RowIs w b C T) : TryRow w b 0 l :=
  ⟨hr.lt, fun i hi => by rw [Nat.zero_add, hr.cell]; exact (h i hi hi).1, fun i hi => by rw [Nat.zero_add, hr.cell]; exact (h i hi hi).2⟩
def TrysV (l : List TryT) : List Value := l.flatMap encTry
theorem TrysV_snoc (l : List TryT) (c : TryT) : TrysV (l ++ [c]) = TrysV l ++ encTry c := by simp [TrysV]
theorem encTry_one (c : TryT) : ∀ x ∈ encTry c, x.oneCell' = true := by
  intro x hx
  simp [encTry] at hx
  rcases hx with rfl | rfl <;> rfl
theorem TrysV_get : ∀ (l : List TryT) (i : Nat) (h : i < l.length) (j : Nat) (v : Value), (encTry l[i])[j]? = some v → (TrysV l)[i * 2 + j]? = some v
  | [], i, h, _, _, _ => absurd h (Nat.not_lt_zero _)
  | c :: l, 0, _, j, v, hv => by
    have hj := (List.getElem?_eq_some_iff.1 hv).1
    have e : TrysV (c :: l) = encTry c ++ TrysV l := by simp [TrysV]
    rw [e, List.getElem?_append_left (by simpa using hj)]
    simpa using hv
  | c :: l, i + 1, h, j, v, hv => by
    have e : TrysV (c :: l) = encTry c ++ TrysV l := by simp [TrysV]
    have hl : (encTry c).length = 2 := rfl
    rw [e, List.getElem?_append_right (by rw [hl]; omega), hl, show (i + 1) * 2 + j - 2 = i * 2 + j by omega]
    exact TrysV_get l i (by simpa using h) j v (by simpa using hv)
theorem own_Try {w : World} {base : Nat} {v : Value} {l : List TryT} (h : w.ownsRow base 31 2 v l.length (TrysV l)) : ∃ a cap, v = .slice a l.length cap ∧ SlTry w a l.length l := by
  rcases h.2 with ⟨rfl, e⟩ | ⟨g, cap, cur, rfl, _, hh, _, _, hsz, htk⟩
  · have : l = [] := List.length_eq_zero_iff.1 e
    subst this
    exact ⟨none, 0, rfl, rfl, .inl rfl⟩
  · have hr : RowIs w g cur 31 := hh
    have hc : ∀ i (hi : i < l.length) j u, (encTry l[i])[j]? = some u → w.cell? ⟨g, 0 + i * 2 + j, none⟩ = some u := fun i hi j u hu => by
      have hu2 := TrysV_get l i hi j u hu
      rw [← htk, List.getElem?_take] at hu2
      rw [Nat.zero_add, hr.cell, ← Array.getElem?_toList]
      split at hu2
      · exact hu2
      · cases hu2
    exact ⟨_, _, rfl, rfl, .inr ⟨g, 0, rfl, hr.lt, fun i hi => hc i hi 0 _ rfl, fun i hi => hc i hi 1 _ rfl⟩⟩
theorem listnTry {α : Type} {l : List α} (h : l.length = 2) : ∃ a0 a1, l = [a0, a1] := by
  match l, h with
  | [a0, a1], _ => exact ⟨a0, a1, rfl⟩
section
variable {H : Type} {enc : TypeId × Value → H} {w : World} {base : Nat} {sp : Nat → Bool} {held : Bool}
theorem addr_Try (b off k : Nat) : (⟨b, off, none⟩ : Addr).add k = ⟨b, off + k, none⟩ := by
  unfold Addr.add; split <;> simp_all
end
end Go.Proofs.Ytgdpbdgbkeghlaa
