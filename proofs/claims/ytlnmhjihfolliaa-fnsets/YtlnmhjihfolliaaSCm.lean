/- slices.Compact at atoms. -/
import Derived.Test.YtlnmhjihfolliaaSPur
import Derived.Test.YtlnmhjihfolliaaSBase
import Derived.Test.YtlnmhjihfolliaaQKept
import Derived.Lib.SliceRun
namespace Go.Proofs.Ytlnmhjihfolliaa.V
open Go.RowKit
set_option maxRecDepth 20000

theorem own_cutK {w : World} {base e size g n cap i : Nat} {xs : List Value} (h : w.ownsRow base e size (.slice (some ⟨g, 0, none⟩) n cap) n xs) (hi : i ≤ n) : w.ownsRow base e size (.slice (some ⟨g, 0, none⟩) i cap) i (xs.take (i * size)) := by
  have h1 := h.1
  have hm : i * size ≤ n * size := Nat.mul_le_mul_right _ hi
  rcases h.2 with ⟨h', _⟩ | ⟨g', cap', cur, h', hb, hg, hnc, hcm, hcs, ht⟩
  · simp at h'
  · simp only [Value.slice.injEq, Option.some.injEq, Addr.mk.injEq, and_true, true_and] at h'
    obtain ⟨rfl, rfl⟩ := h'
    refine ⟨by rw [List.length_take, h1]; omega, .inr ⟨g, cap, cur, rfl, hb, hg, by omega, hcm, hcs, ?_⟩⟩
    rw [← ht, List.take_take, Nat.min_eq_left hm]
theorem own_setCellsK {base e size g n cap : Nat} : ∀ (vs : List Value) (o : Nat) (w : World) (xs : List Value), w.ownsRow base e size (.slice (some ⟨g, 0, none⟩) n cap) n xs → ∃ ys, (w.setCells g o vs).ownsRow base e size (.slice (some ⟨g, 0, none⟩) n cap) n ys ∧ (∀ k, k ≤ o → ys.take k = xs.take k) ∧ w.grownBy (w.setCells g o vs) (some g)
  | [], o, w, xs, h => ⟨xs, h, fun _ _ => rfl, World.grownBy.refl _ _⟩
  | v :: r, o, w, xs, h => by
    have h1 := h.stored o v
    obtain ⟨ys, h2, h3, h4⟩ := own_setCellsK r (o + 1) _ _ h1.1
    refine ⟨ys, h2, fun k hk => ?_, h1.2.trans h4⟩
    rw [h3 k (by omega), List.take_set_of_le hk]
theorem take_atoms (l : List AtomT) (k : Nat) (hk : k ≤ l.length) : (atomsV l).take (k * 4) = atomsV (l.take k) := by
  have e : atomsV l = atomsV (l.take k) ++ atomsV (l.drop k) := by
    unfold atomsV; rw [← List.flatMap_append, List.take_append_drop]
  have hl : (atomsV (l.take k)).length = k * 4 := by rw [atomsV_len, List.length_take]; congr 1; omega
  rw [e, ← hl]; exact List.take_left
/-- One atom is stored in the row. -/
theorem own_store4 {w : World} {base g n cap : Nat} {M : List AtomT} (h : w.ownsRow base 26 4 (.slice (some ⟨g, 0, none⟩) n cap) n (atomsV M)) (k : Nat) (a : AtomT) (hk : k < M.length) :
    ((((w.setCell ⟨g, k * 4, none⟩ (.int .i64 a.x)).setCell ⟨g, k * 4 + 1, none⟩ (.int .i64 a.n)).setCell ⟨g, k * 4 + 2, none⟩ (.string a.t)).setCell ⟨g, k * 4 + 3, none⟩ (.string a.y)).ownsRow base 26 4 (.slice (some ⟨g, 0, none⟩) n cap) n (atomsV (M.set k a))
    ∧ w.grownBy ((((w.setCell ⟨g, k * 4, none⟩ (.int .i64 a.x)).setCell ⟨g, k * 4 + 1, none⟩ (.int .i64 a.n)).setCell ⟨g, k * 4 + 2, none⟩ (.string a.t)).setCell ⟨g, k * 4 + 3, none⟩ (.string a.y)) (some g) := by
  have h1 := h.stored (k * 4) (.int .i64 a.x)
  have h2 := h1.1.stored (k * 4 + 1) (.int .i64 a.n)
  have h3 := h2.1.stored (k * 4 + 2) (.string a.t)
  have h4 := h3.1.stored (k * 4 + 3) (.string a.y)
  have e : ((((atomsV M).set (k * 4) (.int .i64 a.x)).set (k * 4 + 1) (.int .i64 a.n)).set (k * 4 + 2) (.string a.t)).set (k * 4 + 3) (.string a.y) = atomsV (M.set k a) := by
    apply List.ext_getElem?
    intro i
    have hd : i = i / 4 * 4 + i % 4 := by omega
    have hm : i % 4 < 4 := Nat.mod_lt _ (by omega)
    by_cases hi : i / 4 < M.length
    · have g1 := atomsV_get M (i / 4) (i % 4) hi hm
      have g2 := atomsV_get (M.set k a) (i / 4) (i % 4) (by simpa using hi) hm
      rw [← hd] at g1 g2
      rw [g2, List.getElem_set]
      have hlen := atomsV_len M
      by_cases e : k = i / 4
      · subst e
        rw [if_pos rfl]
        have : i % 4 = 0 ∨ i % 4 = 1 ∨ i % 4 = 2 ∨ i % 4 = 3 := by omega
        simp only [List.getElem?_set, List.length_set, hlen]
        rcases this with h | h | h | h
        · rw [if_neg (by omega), if_neg (by omega), if_neg (by omega), if_pos (by omega), if_pos (by omega), h]; rfl
        · rw [if_neg (by omega), if_neg (by omega), if_pos (by omega), if_pos (by omega), h]; rfl
        · rw [if_neg (by omega), if_pos (by omega), if_pos (by omega), h]; rfl
        · rw [if_pos (by omega), if_pos (by omega), h]; rfl
      · rw [if_neg e, ← g1]
        simp only [List.getElem?_set]
        rw [if_neg (by omega), if_neg (by omega), if_neg (by omega), if_neg (by omega)]
    · rw [List.getElem?_eq_none (by simp [atomsV_len]; omega), List.getElem?_eq_none (by rw [atomsV_len, List.length_set]; omega)]
  rw [e] at h4
  exact ⟨h4.1, h1.2.trans (h2.2.trans (h3.2.trans h4.2))⟩
/-- The four cells of an atom in an owned row. -/
theorem own_four {w : World} {base g n cap : Nat} {M : List AtomT} (h : w.ownsRow base 26 4 (.slice (some ⟨g, 0, none⟩) n cap) n (atomsV M)) (hn : n = M.length) (k : Nat) (hk : k < M.length) :
    w.cell? ⟨g, k * 4, none⟩ = some (.int .i64 M[k].x) ∧ w.cell? ⟨g, k * 4 + 1, none⟩ = some (.int .i64 M[k].n) ∧ w.cell? ⟨g, k * 4 + 2, none⟩ = some (.string M[k].t) ∧ w.cell? ⟨g, k * 4 + 3, none⟩ = some (.string M[k].y) := by
  have f : ∀ j, j < 4 → w.cell? ⟨g, k * 4 + j, none⟩ = (cellsA M[k])[j]? := fun j hj => by
    rw [h.cellAt _ (by omega)]; exact atomsV_get M k j hk hj
  exact ⟨f 0 (by omega), f 1 (by omega), f 2 (by omega), f 3 (by omega)⟩

structure CmpAt (l : List AtomT) (j k : Nat) (M : List AtomT) : Prop where
  len : M.length = l.length
  lt : k < j
  le : j ≤ l.length
  beg : SetR (l.take j) (M.take k)
  rest : ∀ i (h : i < l.length) (h' : i < M.length), j ≤ i + 1 → M[i] = l[i]
/-- No atom falls. -/
def Srt (l : List AtomT) : Prop := ∀ i j (hi : i < j) (hj : j < l.length), ¬ l[j].cmp (l[i]'(by omega)) < 0
theorem Srt.less {l : List AtomT} (h : Srt l) {j : Nat} (hj : j < l.length) (h0 : 0 < j) (hn : ¬ l[j] = l[j - 1]'(by omega)) : ∀ y ∈ l.take j, y.cmp l[j] < 0 := by
  have h1 : (l[j - 1]'(by omega)).cmp l[j] < 0 := by
    rcases ord_A.tri (l[j - 1]'(by omega)) l[j] with k | k | k
    · exact k
    · exact absurd k.symm hn
    · exact absurd k (h (j - 1) j (by omega) hj)
  intro y hy
  obtain ⟨i, hi, rfl⟩ := List.getElem_of_mem hy
  rw [List.length_take] at hi
  rw [List.getElem_take]
  by_cases e : i = j - 1
  · subst e; exact h1
  · rcases ord_A.tri l[i] (l[j - 1]'(by omega)) with k | k | k
    · exact ord_A.tr _ _ _ k h1
    · rw [k]; exact h1
    · exact absurd k (h i (j - 1) (by omega) (by omega))
theorem CmpAt.start {l : List AtomT} {k : Nat} (h0 : 0 < k) (hk : k < l.length) (hs : SetR (l.take k) (l.take k)) (e : l[k] = l[k - 1]'(by omega)) : CmpAt l (k + 1) k l := by
  refine ⟨rfl, by omega, by omega, ?_, fun _ _ _ _ => rfl⟩
  rw [List.take_succ_eq_append_getElem hk]
  refine hs.again ?_
  rw [e, List.mem_take_iff_getElem]
  exact ⟨k - 1, by omega, rfl⟩
theorem CmpAt.skip {l M : List AtomT} {j k : Nat} (h : CmpAt l j k M) (hj : j < l.length) (e : l[j] = l[j - 1]'(by omega)) : CmpAt l (j + 1) k M := by
  have hlt := h.lt
  refine ⟨h.len, by omega, by omega, ?_, fun i hi hi' hji => h.rest i hi hi' (by omega)⟩
  rw [List.take_succ_eq_append_getElem hj]
  refine h.beg.again ?_
  rw [e, List.mem_take_iff_getElem]
  exact ⟨j - 1, by omega, rfl⟩
theorem CmpAt.keep {l M : List AtomT} {j k : Nat} (h : CmpAt l j k M) (hs : Srt l) (hj : j < l.length) (e : ¬ l[j] = l[j - 1]'(by omega)) : CmpAt l (j + 1) (k + 1) (M.set k l[j]) := by
  have hlt := h.lt
  have hlen := h.len
  refine ⟨by simpa using h.len, by omega, by omega, ?_, fun i hi hi' hji => ?_⟩
  · rw [List.take_succ_eq_append_getElem hj, List.take_succ_eq_append_getElem (by simp; omega), List.take_set_of_le (Nat.le_refl _), List.getElem_set_self]
    exact h.beg.snoc (hs.less hj (by omega) e)
  · rw [List.getElem_set_ne (by omega)]
    exact h.rest i hi (by omega) (by omega)
theorem setR_one {l : List AtomT} (h : l.length < 2) : SetR l l := by
  match l, h with
  | [], _ => exact SetR.nil
  | [a], _ => exact ⟨by simp, fun _ => Iff.rfl⟩

theorem run_clear_atoms (w : World) (ty : TypeId) (b o n c : Nat) (hn : 0 < n) (hc : ∀ j, j < n * 4 → (w.cell? ⟨b, o + j, none⟩).isSome = true) (hf : ∀ j, j < n * 4 → w.frozen? ⟨b, o + j, none⟩ = false) :
    ∃ vs, (Builtin.clear_ #[23] ty #[.slice (some ⟨b, o, none⟩) n c]).run Try.prog w = .ok (.tuple #[]) (w.setCells b o vs) := by
  obtain ⟨zs, hzs⟩ : ∃ zs, (Builtin.zeroCells (Value.agg #[.int .i64 0, .int .i64 0, .string ⟨#[]⟩, .string ⟨#[]⟩]).cells n).toList = zs := ⟨_, rfl⟩
  have hl : zs.length = n * 4 := by rw [← hzs]; simp [Builtin.zeroCells, Value.cells]
  have h1 : ∀ v ∈ zs, v.oneCell' = true := by
    rw [← hzs]
    intro v hv
    simp only [Builtin.zeroCells, Array.mem_toList_iff, Array.mem_map] at hv
    obtain ⟨i, _, rfl⟩ := hv
    have h4 : (Value.agg #[.int .i64 0, .int .i64 0, .string ⟨#[]⟩, .string ⟨#[]⟩]).cells = #[.int .i64 0, .int .i64 0, .string ⟨#[]⟩, .string ⟨#[]⟩] := rfl
    rw [h4]
    have h5 : i % (#[Value.int .i64 0, .int .i64 0, .string ⟨#[]⟩, .string ⟨#[]⟩] : Array Value).size = 0 ∨ i % (#[Value.int .i64 0, .int .i64 0, .string ⟨#[]⟩, .string ⟨#[]⟩] : Array Value).size = 1 ∨ i % (#[Value.int .i64 0, .int .i64 0, .string ⟨#[]⟩, .string ⟨#[]⟩] : Array Value).size = 2 ∨ i % (#[Value.int .i64 0, .int .i64 0, .string ⟨#[]⟩, .string ⟨#[]⟩] : Array Value).size = 3 := by
      show i % 4 = 0 ∨ i % 4 = 1 ∨ i % 4 = 2 ∨ i % 4 = 3
      omega
    rcases h5 with h | h | h | h <;> (rw [h]; rfl)
  have hst := run_storeCells_cells (P := Try.prog) b o zs 0 w (by simpa [hl] using hc) (by simpa [hl] using hf) h1
  simp only [Nat.add_zero] at hst
  obtain ⟨m, rfl⟩ : ∃ m, n = m + 1 := ⟨n - 1, by omega⟩
  refine ⟨zs, ?_⟩
  simp [Builtin.clear_, run_underlying Try.underlying23, Try.zeroValue26, hzs, hst]
end Go.Proofs.Ytlnmhjihfolliaa.V
