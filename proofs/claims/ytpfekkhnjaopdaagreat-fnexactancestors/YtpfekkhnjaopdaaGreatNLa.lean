/- NLa, one behind the other. -/
import Derived.Test.YtpfekkhnjaopdaaGreatJ15
import Derived.Test.YtpfekkhnjaopdaaGreatJ31
/- What the law of Ancestors wants besides: shapes of what toThingS makes; rows that marks leave alone; how long an answer is. -/
namespace Go.Proofs.YtpfekkhnjaopdaaGreat.V
set_option linter.unusedSimpArgs false
set_option linter.unusedVariables false
open Go.RowKit

theorem shA_of {w : World} {lo : Nat} {h : Hd} {l : List AtomT} (s : SqA w lo h l) (h0 : 0 < lo) : ShA w lo w.heap.size h := by
  rcases s.2 with e | ⟨b, off, e, hl, r⟩
  · exact .inl (by rw [s.1, e]; rfl)
  · refine .inr ⟨b, off, e, hl.in h0 r.z, ?_, ?_, ?_, ?_⟩ <;> intro i hi <;> rw [s.1] at hi
    · exact ⟨_, (r.c i hi).c0⟩
    · exact ⟨_, (r.c i hi).c1⟩
    · exact ⟨_, (r.c i hi).c2⟩
    · exact ⟨_, (r.c i hi).c3⟩
theorem shS_of {w : World} {lo : Nat} {h : Hd} {l : List ByteArray} (s : SqS w lo h l) (h0 : 0 < lo) : ShS w lo w.heap.size h := by
  rcases s.2 with e | ⟨b, off, e, hl, r⟩
  · exact .inl (by rw [s.1, e]; rfl)
  · refine .inr ⟨b, off, e, hl.in h0 r.z, ?_⟩
    intro i hi
    rw [s.1] at hi
    exact ⟨_, r.c i hi⟩
theorem shV_of {w : World} {lo : Nat} {h : Hd} {xs : List ValT} (s : SqValue w lo h xs) (hm : ∀ q ∈ xs, ValueSm q) (h0 : 0 < lo) : ShV w lo w.heap.size h := by
  obtain ⟨l, rfl, s⟩ := s
  rcases s.2.1 with e | ⟨b, off, e, hl, r⟩
  · exact .inl (by rw [s.1, e]; rfl)
  · refine .inr ⟨b, off, e, hl.in h0 r.z, ?_, ?_, ?_, ?_, ?_, ?_, ?_⟩ <;> intro i hi <;> rw [s.1] at hi
    · exact ⟨_, r.c0 i hi⟩
    · exact ⟨_, r.c1 i hi⟩
    · exact ⟨_, r.c2 i hi⟩
    · exact ⟨_, r.c3 i hi⟩
    · exact ⟨_, r.c4 i hi⟩
    · have m := s.2.2 _ (List.getElem_mem hi)
      have z := hm _ (List.mem_map_of_mem (List.getElem_mem hi))
      exact ⟨_, r.c5 i hi, by rw [m.m2.1]; exact z.l2, shA_of m.m2 h0⟩
    · have m := s.2.2 _ (List.getElem_mem hi)
      have z := hm _ (List.mem_map_of_mem (List.getElem_mem hi))
      exact ⟨_, r.c6 i hi, by rw [m.m3.1]; exact z.l3, shS_of m.m3 h0⟩
theorem shT_of {w : World} {lo : Nat} {h : Hd} {xs : List ThingT} (s : SqThing w lo h xs) (hm : ∀ q ∈ xs, ThingSm q) (h0 : 0 < lo) : ShT w lo w.heap.size h := by
  obtain ⟨l, rfl, s⟩ := s
  rcases s.2.1 with e | ⟨b, off, e, hl, r⟩
  · exact .inl (by rw [s.1, e]; rfl)
  · refine .inr ⟨b, off, e, hl.in h0 r.z, ?_, ?_, ?_, ?_, ?_, ?_, ?_⟩ <;> intro i hi <;> rw [s.1] at hi
    · exact ⟨_, r.c0 i hi⟩
    · exact ⟨_, r.c1 i hi⟩
    · exact ⟨_, r.c2 i hi⟩
    · exact ⟨_, r.c3 i hi⟩
    · have m := s.2.2 _ (List.getElem_mem hi)
      have z := hm _ (List.mem_map_of_mem (List.getElem_mem hi))
      exact ⟨_, r.c4 i hi, by rw [m.m1.1]; exact z.l1, shA_of m.m1 h0⟩
    · have m := s.2.2 _ (List.getElem_mem hi)
      have z := hm _ (List.mem_map_of_mem (List.getElem_mem hi))
      exact ⟨_, r.c5 i hi, by rw [m.m2.1]; exact z.l2, shS_of m.m2 h0⟩
    · have m := s.2.2 _ (List.getElem_mem hi)
      have z := hm _ (List.mem_map_of_mem (List.getElem_mem hi))
      exact ⟨_, r.c6 i hi, by rw [m.m3.len]; exact z.l3, shV_of m.m3 z.o3 h0⟩
theorem own_mk {lo hi : Nat} {w w' : World} {base e size n : Nat} {v : Value} {xs : List Value} (h : w.ownsRow base e size v n xs) (m : Mk lo hi w w') (hg : ∀ g, v.ownBlock = some g → g < lo ∨ hi ≤ g) : w'.ownsRow base e size v n xs := by
  refine ⟨h.1, h.2.imp id ?_⟩
  rintro ⟨g, cap, cur, rfl, h1, h2, h3⟩
  have hl := (Array.getElem?_eq_some_iff.1 h2).1
  refine ⟨g, cap, cur, rfl, h1, ?_, h3⟩
  rcases hg g rfl with k | k
  · rw [m.b.block g k]; exact h2
  · rw [m.up g k hl]; exact h2
theorem flat_leT : ∀ (xs : List ThingT), (∀ e ∈ xs, e.f1.length ≤ 50) → (xs.flatMap (·.f1)).length ≤ xs.length * 50
  | [], _ => by simp
  | t :: xs, h => by
    have h1 := flat_leT xs (fun e he => h e (List.mem_cons_of_mem _ he))
    have h2 := h t (List.mem_cons_self ..)
    rw [List.flatMap_cons, List.length_append, List.length_cons]
    omega
theorem up_in {xs : List ThingT} {a x : AtomT} (h : Up (parL xs) a x) : x ∈ a :: xs.flatMap (·.f1) := by
  cases h with
  | same => exact List.mem_cons_self ..
  | next _ hb =>
    unfold parL at hb
    split at hb
    · rename_i t ht
      exact List.mem_cons_of_mem _ (List.mem_flatMap.2 ⟨t, List.mem_of_find?_eq_some ht, hb⟩)
    · cases hb
theorem AncIs.len {xs : List ThingT} {a : AtomT} {rr : List AtomT} (h : AncIs xs a rr) : rr.length ≤ 5001 := by
  rcases h with ⟨h1, _, h3, h4⟩ | ⟨_, rfl⟩
  · have nd : rr.Nodup := h4.imp (fun {a b} k e => by subst e; exact ord_A.irr _ k)
    have h5 := nd_len nd (fun x hx => up_in ((h3 x).1 hx))
    have h6 := flat_leT xs (fun e he => (h1.1.2 e he).2.1.1)
    have h7 := h1.1.1
    rw [List.length_cons] at h5
    omega
  · exact Nat.zero_le _
end Go.Proofs.YtpfekkhnjaopdaaGreat.V
