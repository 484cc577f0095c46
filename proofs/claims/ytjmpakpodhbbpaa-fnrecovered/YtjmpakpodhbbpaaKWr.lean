/- Slices of impl.RecoverEvent: in memory, read, sized, copied, held against each other. -/
import Derived.Test.YtjmpakpodhbbpaaGBase
import Derived.ProofKit
import Derived.Deep.Slices
import Derived.Laws.MakeOwn
import Derived.OwnWalk
namespace Go.Proofs.Ytjmpakpodhbbpaa
open Go.ChangeShapes Go.WideShapes Go.RowKit

structure RecoverEventT where
  f0 : Int
  f1 : Int
  f2 : ByteArray
structure RecoverEventT.Ok (x : RecoverEventT) : Prop where
  o0 : (Lit.int .i64 x.f0).wf = true
  o1 : (Lit.int .i64 x.f1).wf = true
  o2 : x.f2.size ≤ maxLen
def encRecoverEvent (x : RecoverEventT) : List Value := [.int .i64 x.f0, .int .i64 x.f1, .string x.f2]
structure RecoverEventRow (w : World) (b off : Nat) (l : List RecoverEventT) : Prop where
  z : b < w.heap.size
  c0 : ∀ i (h : i < l.length), w.cell? ⟨b, off + i * 3, none⟩ = some (.int .i64 l[i].f0)
  c1 : ∀ i (h : i < l.length), w.cell? ⟨b, off + i * 3 + 1, none⟩ = some (.int .i64 l[i].f1)
  c2 : ∀ i (h : i < l.length), w.cell? ⟨b, off + i * 3 + 2, none⟩ = some (.string l[i].f2)
theorem RecoverEventRow.keep {w w1 : World} {b off : Nat} {l : List RecoverEventT} (h : RecoverEventRow w b off l) (hb : Below w.heap.size w w1) : RecoverEventRow w1 b off l :=
  ⟨Nat.lt_of_lt_of_le h.z hb.size, fun i hi => cellB hb h.z (h.c0 i hi), fun i hi => cellB hb h.z (h.c1 i hi), fun i hi => cellB hb h.z (h.c2 i hi)⟩
def SlRecoverEvent (w : World) (a : Option Addr) (len : Nat) (l : List RecoverEventT) : Prop := len = l.length ∧ (l = [] ∨ ∃ b off, a = some ⟨b, off, none⟩ ∧ RecoverEventRow w b off l)
theorem SlRecoverEvent.keep {w w1 : World} {a : Option Addr} {len : Nat} {l : List RecoverEventT} (h : SlRecoverEvent w a len l) (hb : Below w.heap.size w w1) : SlRecoverEvent w1 a len l :=
  ⟨h.1, by
    rcases h.2 with e | ⟨b, off, e, r⟩
    · exact .inl e
    · exact .inr ⟨b, off, e, r.keep hb⟩⟩
theorem SlRecoverEvent.at {w : World} {a : Option Addr} {len : Nat} {l : List RecoverEventT} (h : SlRecoverEvent w a len l) {k : Nat} (hk : k < len) : ∃ b off, a = some ⟨b, off, none⟩ ∧ RecoverEventRow w b off l := by
  rcases h.2 with e | e
  · rw [h.1, e] at hk; simp at hk
  · exact e
theorem bStRecoverEvent {w w' : World} (h : Below w.heap.size w w') (b o : Nat) (hb : w.heap.size ≤ b) (v : Value) : Below w.heap.size w (w'.setCell ⟨b, o, none⟩ v) := h.setCell hb v
theorem info_RecoverEvent : (Try.prog.info? 31).map (fun i => (i.zero, i.size, i.bytes)) = some (some (.agg #[.int .i64 0, .int .i64 0, .string ByteArray.empty]), 3, 32) := by kernel_rfl
theorem make_RecoverEvent (len : Nat) (w : World) (h : len ≤ 1048576) : ∃ w1 C, (Instr.makeSlice 24 (.int .i64 (len : Int)) (.int .i64 (len : Int))).run Try.prog w = .ok (.slice (some ⟨w.heap.size, 0, none⟩) len len) w1 ∧
    Below w.heap.size w w1 ∧ RowIs w1 w.heap.size C 31 ∧ C.size = len * 3 := by
  obtain ⟨i, h1, h2⟩ := Option.map_eq_some_iff.1 info_RecoverEvent
  simp only [Prod.mk.injEq] at h2
  obtain ⟨hz, hsz, hby⟩ := h2
  have hr := run_make (P := Try.prog) w 24 31 i _ Try.underlying24 h1 hz .i64 .i64 (len : Int) (len : Int) (by omega) (by omega) (by rw [hby]; omega) (by omega)
  rw [Int.toNat_natCast, hsz] at hr
  exact ⟨_, _, hr, bAl (Below.refl _ _) _, RowIs.new _ _ _, size_madeCells _ _⟩
def FilledRecoverEvent (C : Array Value) (l : List RecoverEventT) (k : Nat) : Prop := ∀ i (h : i < l.length), i < k → C[i * 3]? = some (.int .i64 l[i].f0) ∧ C[i * 3 + 1]? = some (.int .i64 l[i].f1) ∧ C[i * 3 + 2]? = some (.string l[i].f2)
def setRecoverEvent (C : Array Value) (k : Nat) (x : RecoverEventT) : Array Value := (((C.setIfInBounds (k * 3) (.int .i64 x.f0)).setIfInBounds (k * 3 + 1) (.int .i64 x.f1)).setIfInBounds (k * 3 + 2) (.string x.f2))
theorem size_setRecoverEvent (C : Array Value) (k : Nat) (x : RecoverEventT) : (setRecoverEvent C k x).size = C.size := by simp [setRecoverEvent]
theorem FilledRecoverEvent.set {C : Array Value} {l : List RecoverEventT} {k : Nat} (h : FilledRecoverEvent C l k) (hk : k < l.length) (hC : C.size = l.length * 3) : FilledRecoverEvent (setRecoverEvent C k l[k]) l (k + 1) := by
  intro i hi hik
  unfold setRecoverEvent
  by_cases e : i = k
  · subst e
    have s0 : i * 3 < C.size := by omega
    have s1 : i * 3 + 1 < C.size := by omega
    have s2 : i * 3 + 2 < C.size := by omega
    simp [s0, s1, s2]
  · have := h i hi (by omega)
    simp only [Array.getElem?_setIfInBounds]
    repeat rw [if_neg (by omega)]
    exact this
theorem FilledRecoverEvent.row {w : World} {b : Nat} {C : Array Value} {T : TypeId} {l : List RecoverEventT} (h : FilledRecoverEvent C l l.length) (hr : RowIs w b C T) : RecoverEventRow w b 0 l :=
  ⟨hr.lt, fun i hi => by rw [Nat.zero_add, hr.cell]; exact (h i hi hi).1, fun i hi => by rw [Nat.zero_add, hr.cell]; exact (h i hi hi).2.1, fun i hi => by rw [Nat.zero_add, hr.cell]; exact (h i hi hi).2.2⟩
def RecoverEventsV (l : List RecoverEventT) : List Value := l.flatMap encRecoverEvent
theorem RecoverEventsV_snoc (l : List RecoverEventT) (c : RecoverEventT) : RecoverEventsV (l ++ [c]) = RecoverEventsV l ++ encRecoverEvent c := by simp [RecoverEventsV]
theorem encRecoverEvent_one (c : RecoverEventT) : ∀ x ∈ encRecoverEvent c, x.oneCell' = true := by
  intro x hx
  simp [encRecoverEvent] at hx
  rcases hx with rfl | rfl | rfl <;> rfl
theorem RecoverEventsV_get : ∀ (l : List RecoverEventT) (i : Nat) (h : i < l.length) (j : Nat) (v : Value), (encRecoverEvent l[i])[j]? = some v → (RecoverEventsV l)[i * 3 + j]? = some v
  | [], i, h, _, _, _ => absurd h (Nat.not_lt_zero _)
  | c :: l, 0, _, j, v, hv => by
    have hj := (List.getElem?_eq_some_iff.1 hv).1
    have e : RecoverEventsV (c :: l) = encRecoverEvent c ++ RecoverEventsV l := by simp [RecoverEventsV]
    rw [e, List.getElem?_append_left (by simpa using hj)]
    simpa using hv
  | c :: l, i + 1, h, j, v, hv => by
    have e : RecoverEventsV (c :: l) = encRecoverEvent c ++ RecoverEventsV l := by simp [RecoverEventsV]
    have hl : (encRecoverEvent c).length = 3 := rfl
    rw [e, List.getElem?_append_right (by rw [hl]; omega), hl, show (i + 1) * 3 + j - 3 = i * 3 + j by omega]
    exact RecoverEventsV_get l i (by simpa using h) j v (by simpa using hv)
theorem own_RecoverEvent {w : World} {base : Nat} {v : Value} {l : List RecoverEventT} (h : w.ownsRow base 31 3 v l.length (RecoverEventsV l)) : ∃ a cap, v = .slice a l.length cap ∧ SlRecoverEvent w a l.length l := by
  rcases h.2 with ⟨rfl, e⟩ | ⟨g, cap, cur, rfl, _, hh, _, _, hsz, htk⟩
  · have : l = [] := List.length_eq_zero_iff.1 e
    subst this
    exact ⟨none, 0, rfl, rfl, .inl rfl⟩
  · have hr : RowIs w g cur 31 := hh
    have hc : ∀ i (hi : i < l.length) j u, (encRecoverEvent l[i])[j]? = some u → w.cell? ⟨g, 0 + i * 3 + j, none⟩ = some u := fun i hi j u hu => by
      have hu2 := RecoverEventsV_get l i hi j u hu
      rw [← htk, List.getElem?_take] at hu2
      rw [Nat.zero_add, hr.cell, ← Array.getElem?_toList]
      split at hu2
      · exact hu2
      · cases hu2
    exact ⟨_, _, rfl, rfl, .inr ⟨g, 0, rfl, hr.lt, fun i hi => hc i hi 0 _ rfl, fun i hi => hc i hi 1 _ rfl, fun i hi => hc i hi 2 _ rfl⟩⟩
theorem listnRecoverEvent {α : Type} {l : List α} (h : l.length = 3) : ∃ a0 a1 a2, l = [a0, a1, a2] := by
  match l, h with
  | [a0, a1, a2], _ => exact ⟨a0, a1, a2, rfl⟩
section
variable {H : Type} {enc : TypeId × Value → H} {w : World} {base : Nat} {sp : Nat → Bool} {held : Bool}
theorem addr_RecoverEvent (b off k : Nat) : (⟨b, off, none⟩ : Addr).add k = ⟨b, off + k, none⟩ := by
  unfold Addr.add; split <;> simp_all
end
end Go.Proofs.Ytjmpakpodhbbpaa
