/- spec.Like (17): the table. -/
import Derived.Test.YthbakjnojjkmmaaLikeI
namespace Go.Proofs.Ythbakjnojjkmmaa
open Go.RowKit

/-- The slice a, len reads as the numbers of the tokens ts. -/
def SlI (w : World) (a : Option Addr) (len : Nat) (ts : List (Option UInt8)) : Prop :=
  len = ts.length ∧ (ts = [] ∨ ∃ g, a = some ⟨g, 0, none⟩ ∧ g < w.heap.size ∧ ∀ i (h : i < ts.length), w.cell? ⟨g, i, none⟩ = some (.int .i64 (tokI ts[i])))
theorem SlI.keep {w w1 : World} {a : Option Addr} {len : Nat} {ts : List (Option UInt8)} (h : SlI w a len ts) (hb : Below w.heap.size w w1) : SlI w1 a len ts :=
  ⟨h.1, by
    rcases h.2 with e | ⟨g, e, z, r⟩
    · exact .inl e
    · exact .inr ⟨g, e, Nat.lt_of_lt_of_le z hb.size, fun i hi => cellB hb z (r i hi)⟩⟩
theorem SlI.at {w : World} {a : Option Addr} {len : Nat} {ts : List (Option UInt8)} (h : SlI w a len ts) {k : Nat} (hk : k < len) :
    ∃ g, a = some ⟨g, 0, none⟩ ∧ g < w.heap.size ∧ ∀ i (h : i < ts.length), w.cell? ⟨g, i, none⟩ = some (.int .i64 (tokI ts[i])) := by
  rcases h.2 with e | e
  · rw [h.1, e] at hk; simp at hk
  · exact e
theorem own_ints {w : World} {base : Nat} {v : Value} {ts : List (Option UInt8)} (h : w.ownsRow base 3 1 v ts.length (ts.map tokV)) : ∃ a cap, v = .slice a ts.length cap ∧ SlI w a ts.length ts := by
  rcases h.2 with ⟨rfl, e⟩ | ⟨g, cap, cur, rfl, _, hh, _, _, hsz, htk⟩
  · have : ts = [] := List.length_eq_zero_iff.1 e
    subst this
    exact ⟨none, 0, rfl, rfl, .inl rfl⟩
  · refine ⟨_, _, rfl, rfl, .inr ⟨g, rfl, (Array.getElem?_eq_some_iff.1 hh).1, fun i hi => ?_⟩⟩
    have hr : RowIs w g cur 3 := hh
    have f0 : (ts.map tokV)[i]? = some (.int .i64 (tokI ts[i])) := by simp [tokV, hi]
    rw [← htk, List.getElem?_take] at f0
    rw [hr.cell, ← Array.getElem?_toList]
    split at f0
    · exact f0
    · cases f0

/-- A row of m + 1 bools whose first q + 1 say f. -/
def RowB (w : World) (b m : Nat) (f : Nat → Prop) (q : Nat) : Prop :=
  ∃ C, RowIs w b C 4 ∧ C.size = m + 1 ∧ ∀ k, k ≤ m → ∃ β : Bool, C[k]? = some (.bool β) ∧ (k ≤ q → (β = true ↔ f k))
theorem RowB.at {w : World} {b m q : Nat} {f : Nat → Prop} (h : RowB w b m f q) {k : Nat} (hk : k ≤ m) (hq : k ≤ q) : ∃ β : Bool, w.cell? ⟨b, k, none⟩ = some (.bool β) ∧ (β = true ↔ f k) := by
  obtain ⟨C, hr, _, hc⟩ := h
  obtain ⟨β, h1, h2⟩ := hc k hk
  exact ⟨β, hr.at h1, h2 hq⟩
theorem RowB.some {w : World} {b m q : Nat} {f : Nat → Prop} (h : RowB w b m f q) {k : Nat} (hk : k ≤ m) : ∃ β : Bool, w.cell? ⟨b, k, none⟩ = some (.bool β) := by
  obtain ⟨C, hr, _, hc⟩ := h
  obtain ⟨β, h1, _⟩ := hc k hk
  exact ⟨β, hr.at h1⟩
theorem RowB.froz {w : World} {b m q : Nat} {f : Nat → Prop} (h : RowB w b m f q) (k : Nat) : w.frozen? ⟨b, k, none⟩ = false := by
  obtain ⟨C, hr, _, _⟩ := h
  exact hr.froz k
theorem RowB.lt {w : World} {b m q : Nat} {f : Nat → Prop} (h : RowB w b m f q) : b < w.heap.size := by
  obtain ⟨C, hr, _, _⟩ := h
  exact hr.lt
theorem RowB.keep {w w1 : World} {b m q : Nat} {f : Nat → Prop} (h : RowB w b m f q) (hb : Below w.heap.size w w1) : RowB w1 b m f q := by
  obtain ⟨C, hr, hs, hc⟩ := h
  exact ⟨C, hr.keep hb, hs, hc⟩
theorem RowB.setOther {w : World} {b m q : Nat} {f : Nat → Prop} (h : RowB w b m f q) {b' o' : Nat} (u : Value) (hn : b ≠ b') : RowB (w.setCell ⟨b', o', none⟩ u) b m f q := by
  obtain ⟨C, hr, hs, hc⟩ := h
  exact ⟨C, hr.setOther u hn, hs, hc⟩
theorem RowB.step {w : World} {b m q : Nat} {f : Nat → Prop} (h : RowB w b m f q) (hq : q + 1 ≤ m) {β : Bool} (hβ : β = true ↔ f (q + 1)) : RowB (w.setCell ⟨b, q + 1, none⟩ (.bool β)) b m f (q + 1) := by
  obtain ⟨C, hr, hs, hc⟩ := h
  refine ⟨C.setIfInBounds (q + 1) (.bool β), hr.set _ _, by simpa using hs, fun k hk => ?_⟩
  by_cases e : k = q + 1
  · subst e
    exact ⟨β, by rw [Array.getElem?_setIfInBounds, if_pos rfl, if_pos (by omega)], fun _ => hβ⟩
  · obtain ⟨γ, h1, h2⟩ := hc k hk
    exact ⟨γ, by rw [Array.getElem?_setIfInBounds, if_neg (by omega)]; exact h1, fun h => h2 (by omega)⟩
theorem RowB.first {w : World} {b m q : Nat} {f g : Nat → Prop} (h : RowB w b m f q) {β : Bool} (hβ : β = true ↔ g 0) : RowB (w.setCell ⟨b, 0, none⟩ (.bool β)) b m g 0 := by
  obtain ⟨C, hr, hs, hc⟩ := h
  refine ⟨C.setIfInBounds 0 (.bool β), hr.set _ _, by simpa using hs, fun k hk => ?_⟩
  by_cases e : k = 0
  · subst e
    exact ⟨β, by rw [Array.getElem?_setIfInBounds, if_pos rfl, if_pos (by omega)], fun _ => hβ⟩
  · obtain ⟨γ, h1, _⟩ := hc k hk
    exact ⟨γ, by rw [Array.getElem?_setIfInBounds, if_neg (by omega)]; exact h1, fun h => absurd h (by omega)⟩

theorem madeBool (n k : Nat) (h : k < n) : (madeCells #[Value.bool false] n)[k]? = some (.bool false) := by
  unfold madeCells
  simp [h, Nat.mod_one]

/-- 'make([]bool, m + 1)': all false. -/
theorem make_bools (m : Nat) (w : World) (f : Nat → Prop) (hm : m ≤ 200) (h0 : ¬ f 0) : ∃ w1, (Instr.makeSlice 75 (.int .i64 ((m : Int) + 1)) (.int .i64 ((m : Int) + 1))).run Try.prog w = .ok (.slice (some ⟨w.heap.size, 0, none⟩) (m + 1) (m + 1)) w1 ∧
    Below w.heap.size w w1 ∧ RowB w1 w.heap.size m f 0 := by
  have hi : (Try.prog.info? 4).map (fun i => (i.zero, i.size, i.bytes)) = some (some (.bool false), 1, 1) := by kernel_rfl
  obtain ⟨i, h1, h2⟩ := Option.map_eq_some_iff.1 hi
  simp only [Prod.mk.injEq] at h2
  obtain ⟨hz, hsz, hby⟩ := h2
  have hr := run_make (P := Try.prog) w 75 4 i _ Try.underlying75 h1 hz .i64 .i64 ((m : Int) + 1) ((m : Int) + 1) (by omega) (by omega) (by rw [hby]; omega) (by omega)
  rw [show ((m : Int) + 1).toNat = m + 1 by omega, hsz, Nat.mul_one] at hr
  refine ⟨_, hr, bAl (Below.refl _ _) _, _, RowIs.new _ _ _, size_madeCells _ _, fun k hk => ⟨false, madeBool _ _ (by omega), fun h => ?_⟩⟩
  obtain rfl : k = 0 := by omega
  simp [h0]
end Go.Proofs.Ythbakjnojjkmmaa
