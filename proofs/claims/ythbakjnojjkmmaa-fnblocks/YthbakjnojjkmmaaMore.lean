/- Patterns with more behind; a text told as a pattern. -/
import Derived.Test.YthbakjnojjkmmaaLikeT
import Derived.Test.YthbakjnojjkmmaaEsc
namespace Go.Proofs.Ythbakjnojjkmmaa
open Go.RowKit

theorem toks_esc_all : ∀ s : List UInt8, toks (esc [42, 92] s) = some (s.map some)
  | [] => rfl
  | c :: s => by
    have ih := toks_esc_all s
    have e : esc [42, 92] (c :: s) = escs [42, 92] c ++ c :: esc [42, 92] s := by simp [esc]
    rw [e]
    by_cases h1 : c = 42
    · subst h1
      show toks (92 :: 42 :: esc [42, 92] s) = _
      rw [toks_esc (.inl rfl), ih]; rfl
    by_cases h2 : c = 92
    · subst h2
      show toks (92 :: 92 :: esc [42, 92] s) = _
      rw [toks_esc (.inr rfl), ih]; rfl
    have e2 : escs [42, 92] c = [] := by
      unfold escs
      rw [List.filter_cons_of_neg (by simpa using fun h => h1 h.symm), List.filter_cons_of_neg (by simpa using fun h => h2 h.symm)]
      rfl
    rw [e2, List.nil_append, toks_own h1 h2, ih]; rfl
theorem esc_len : ∀ s : List UInt8, (esc [42, 92] s).length ≤ 3 * s.length
  | [] => Nat.le_refl _
  | c :: s => by
    have ih := esc_len s
    have e : esc [42, 92] (c :: s) = escs [42, 92] c ++ c :: esc [42, 92] s := by simp [esc]
    have := escs_len [42, 92] c
    rw [e]
    simp at this ⊢; omega
theorem toks_starred : ∀ (n : Nat) (l : List UInt8), l.length ≤ n → ∀ ts, toks l = some ts → toks (l ++ [42]) = some (ts ++ [none])
  | _, [], _, ts, e => by simp [toks] at e; subst e; rfl
  | 0, _ :: _, h, _, _ => by simp at h
  | n + 1, c :: r, h, ts, e => by
    simp only [List.length_cons] at h
    by_cases h1 : c = 42
    · subst h1
      rw [toks_star] at e
      obtain ⟨us, h2, rfl⟩ := Option.map_eq_some_iff.1 e
      rw [List.cons_append, toks_star, toks_starred n r (by omega) us h2]; rfl
    by_cases h2 : c = 92
    · subst h2
      cases r with
      | nil => cases e
      | cons d r =>
        by_cases h3 : d = 42 ∨ d = 92
        · rw [toks_esc h3] at e
          obtain ⟨us, h4, rfl⟩ := Option.map_eq_some_iff.1 e
          rw [List.cons_append, List.cons_append, toks_esc h3, toks_starred n r (by simp at h; omega) us h4]; rfl
        · rw [toks_bad (fun h => h3 (.inl h)) (fun h => h3 (.inr h))] at e; cases e
    rw [toks_own h1 h2] at e
    obtain ⟨us, h3, rfl⟩ := Option.map_eq_some_iff.1 e
    rw [List.cons_append, toks_own h1 h2, toks_starred n r (by omega) us h3]; rfl
theorem Mt.self : ∀ s : List UInt8, Mt (s.map some) s
  | [] => rfl
  | _ :: s => ⟨s, rfl, Mt.self s⟩
theorem Mt.only {s u : List UInt8} (h : Mt (s.map some) u) : u = s := by
  rw [← List.append_nil (s.map some)] at h
  obtain ⟨v, rfl, h2⟩ := Mt.literals h
  have h3 : v = [] := h2
  rw [h3, List.append_nil]

def ownPat (t : ByteArray) : ByteArray := ⟨(esc [42, 92] t.data.toList).toArray⟩
theorem ownPat_size (t : ByteArray) : (ownPat t).size ≤ 3 * t.size := by
  have := esc_len t.data.toList
  have e : (ownPat t).size = (esc [42, 92] t.data.toList).length := by simp [ownPat, ByteArray.size]
  simp at this
  have e2 : t.data.size = t.size := rfl
  omega
theorem ba_app (a b : ByteArray) : (a ++ b).data.toList = a.data.toList ++ b.data.toList := by simp
theorem likes_own (t : ByteArray) (h : t.size ≤ 60) : Likes t (ownPat t) := by
  have := ownPat_size t
  exact ⟨by omega, by omega, _, toks_esc_all _, Mt.self _⟩
theorem likes_own_no (t : ByteArray) (b : ByteArray) (hb : 0 < b.size) : ¬ Likes (t ++ b) (ownPat t) := by
  rintro ⟨_, _, ts, h1, h2⟩
  have e : toks (ownPat t).data.toList = some (t.data.toList.map some) := toks_esc_all _
  rw [e] at h1
  cases h1
  rw [ba_app] at h2
  have := Mt.only h2
  have := congrArg List.length this
  simp at this
  have e2 : b.data.size = b.size := rfl
  simp_all
theorem likes_star (t p b : ByteArray) (h : Likes t p) (h1 : t.size + b.size ≤ 200) (h2 : p.size + 1 ≤ 200) : Likes (t ++ b) (p ++ ⟨#[42]⟩) := by
  obtain ⟨_, _, ts, e, m⟩ := h
  have e1 : (p ++ ⟨#[42]⟩).size = p.size + 1 := ByteArray.size_append
  refine ⟨by rw [ByteArray.size_append]; omega, by omega, ts ++ [none], ?_, ?_⟩
  · rw [ba_app]; exact toks_starred _ _ (Nat.le_refl _) _ e
  · rw [ba_app]; exact (Mt.star_any _ _).2 ⟨_, _, rfl, m⟩

theorem code_of {w : World} {a : Option Addr} {len cap : Nat} {zs : List Int}
    (h : (a = none ∧ len = 0 ∧ cap = 0 ∧ zs = []) ∨ ∃ x, a = some x ∧ len ≤ cap ∧ cap ≤ maxLen ∧ zs.length = cap ∧ (∀ i, i < zs.length → w.cell? (x.add i) = some (.int .u8 (zs.getD i 0))) ∧ ∀ n ∈ zs, (Lit.int .u8 n).wf = true) : CodeAt w w.heap.size a len := by
  rcases h with ⟨rfl, rfl, rfl, rfl⟩ | ⟨x, rfl, h1, h2, h3, h4, h5⟩
  · exact ⟨Nat.zero_le _, .inl rfl⟩
  refine ⟨by omega, ?_⟩
  by_cases h0 : len = 0
  · exact .inl h0
  have c0 := h4 0 (by omega)
  have hs : x.spot = none ∧ x.block < w.heap.size := by
    have e : x.add 0 = x := rfl
    rw [e] at c0
    unfold World.cell? at c0
    split at c0
    · rename_i hh
      refine ⟨?_, (Array.getElem?_eq_some_iff.1 hh).1⟩
      cases hx : x.spot
      · rfl
      · rw [hx] at c0; simp at c0
    · cases c0
  obtain ⟨blk, off, spot⟩ := x
  obtain ⟨rfl, hb⟩ := hs
  refine .inr ⟨blk, off, rfl, hb, hb, fun i hi => ?_⟩
  have ci := h4 i (by omega)
  have ea : (⟨blk, off, none⟩ : Addr).add i = ⟨blk, off + i, none⟩ := by unfold Addr.add; split <;> simp_all
  rw [ea] at ci
  refine ⟨_, ?_, ?_, ci⟩
  all_goals
    have hm : zs.getD i 0 ∈ zs := by
      rw [List.getD_eq_getElem?_getD, List.getElem?_eq_getElem (by omega)]
      simp
    have := h5 _ hm
    generalize zs.getD i 0 = z at this ⊢
    simp [Lit.wf, IntKind.min, IntKind.max, IntKind.signed, IntKind.bits] at this
    omega
end Go.Proofs.Ythbakjnojjkmmaa
