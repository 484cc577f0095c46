/- impl.keysInOrder: the keys of a map, rising. -/
import Derived.Test.YtfabfgokammmhaaGStp
import Derived.Test.YtfabfgokammmhaaGGe
import Derived.Test.YtfabfgokammmhaaIter
namespace Go.Proofs.Ytfabfgokammmhaa
open Go.RowKit Go.Maps Go.Sort Go.Shelf

theorem cmpT_lt : ∀ a b : List UInt8, cmpT a b < 0 ↔ a < b
  | [], [] => by simp [cmpT]
  | [], b :: y => by simp [cmpT]
  | a :: x, [] => by simp [cmpT]
  | a :: x, b :: y => by
    rw [List.cons_lt_cons_iff]
    unfold cmpT
    by_cases e : a = b
    · subst e
      rw [if_pos rfl, cmpT_lt x y]
      have : ¬ a < a := fun h => by rw [UInt8.lt_iff_toNat_lt] at h; omega
      simp [this]
    · rw [if_neg e]
      have h1 : cmpN a.toNat b.toNat < 0 ↔ a < b := by
        rw [UInt8.lt_iff_toNat_lt]
        unfold cmpN
        repeat (any_goals split)
        all_goals omega
      rw [h1]
      simp [e]
/-- Texts that rise. -/
def RisS (r : List Bs) : Prop := r.Pairwise fun a b => cmpB a b < 0
theorem cmpB_irr (a : Bs) : ¬ cmpB a a < 0 := by unfold cmpB; rw [cmpT_self]; omega
theorem cmpB_tr (a b c : Bs) (h1 : cmpB a b < 0) (h2 : cmpB b c < 0) : cmpB a c < 0 := by
  unfold cmpB at *
  rw [cmpT_lt] at *
  exact List.lt_trans h1 h2
theorem cmpB_zero {a b : Bs} (h : cmpB a b = 0) : a = b := by
  have := cmpT_zero (a := a.data.toList) (b := b.data.toList) h
  have e : a.data = b.data := Array.toList_inj.1 this
  cases a; cases b; simp at e; rw [e]
theorem RisS.ext {r s : List Bs} (hr : RisS r) (hs : RisS s) (h : ∀ x, x ∈ r ↔ x ∈ s) : r = s := rising_ext _ cmpB_irr cmpB_tr r s hr hs h

theorem toB_toArray (x : List UInt8) : ((⟨x.toArray⟩ : ByteArray)).data.toList = x := by simp
theorem sort_ris {ss : List (List UInt8)} (hn : ss.Nodup) : RisS ((ss.mergeSort fun x y => decide (x ≤ y)).map fun x => (⟨x.toArray⟩ : ByteArray)) := by
  unfold RisS
  rw [List.pairwise_map]
  have tr : ∀ a b c : List UInt8, decide (a ≤ b) = true → decide (b ≤ c) = true → decide (a ≤ c) = true := fun a b c h1 h2 => by simp only [decide_eq_true_eq] at *; exact List.le_trans h1 h2
  have to : ∀ a b : List UInt8, (decide (a ≤ b) || decide (b ≤ a)) = true := fun a b => by simp only [Bool.or_eq_true, decide_eq_true_eq]; exact List.le_total a b
  have h1 := List.pairwise_mergeSort tr to ss
  have h2 : (ss.mergeSort fun x y => decide (x ≤ y)).Nodup := (List.mergeSort_perm ss _).nodup_iff.2 hn
  refine (h1.and h2).imp fun {a b} h => ?_
  have h3 := h.1
  simp only [decide_eq_true_eq] at h3
  show cmpT a b < 0
  rw [cmpT_lt]
  rcases List.le_iff_lt_or_eq.1 h3 with h4 | h4
  · exact h4
  · exact absurd h4 h.2

/-- The keys of a map of strings. -/
theorem keys_spec {w : World} {b n : Nat} {D : DataW Value} (hown : w.ownsMap Try.prog 9 hvR b n D) : (strKeys D).Nodup ∧ (∀ x, x ∈ strKeys D ↔ Maps.has D (.string x) = true) ∧ (∀ x ∈ strKeys D, x.length ≤ maxLen) := by
  refine ⟨?_, ?_, strKeys_le hown Try.underlying9⟩
  · obtain ⟨es, hD, hpw, _⟩ := hown.entries (string_keyed Try.underlying9)
    obtain ⟨es', hD', hko⟩ := hown.keysOf
    obtain rfl : es = es' := by rw [hD] at hD'; simpa using hD'
    subst hD
    show (es.map fun p => strOf p.1).Nodup
    refine List.pairwise_map.2 (hpw.imp_of_mem fun {p q} hp' hq' hne e => hne ?_)
    obtain ⟨v, hv⟩ := hko p hp'
    obtain ⟨_, _, ha, _⟩ := Maps.keyOf_str Try.underlying9 hv
    obtain ⟨v', hv'⟩ := hko q hq'
    obtain ⟨_, _, hb, _⟩ := Maps.keyOf_str Try.underlying9 hv'
    rw [ha, hb] at e ⊢
    exact congrArg _ e
  · obtain ⟨es, rfl, hko⟩ := hown.keysOf
    intro x
    rw [has_eq, List.any_eq_true]
    show x ∈ es.map (fun p => strOf p.1) ↔ _
    rw [List.mem_map]
    constructor
    · rintro ⟨p, hp', rfl⟩
      obtain ⟨v, hv⟩ := hko p hp'
      obtain ⟨_, _, ha, _⟩ := Maps.keyOf_str Try.underlying9 hv
      exact ⟨p, hp', by rw [ha]; simp [Lit.sameKey, strOf]⟩
    · rintro ⟨p, hp', hs⟩
      obtain ⟨v, hv⟩ := hko p hp'
      obtain ⟨_, _, ha, _⟩ := Maps.keyOf_str Try.underlying9 hv
      rw [ha] at hs
      exact ⟨p, hp', by rw [ha]; simpa [Lit.sameKey, strOf] using hs⟩

theorem sorts107 (m : Nat) : AnyZ.SortsIn Try.prog Try.sorted69_ren Fence.wide m :=
  ⟨fun blk off cap ss W hH hblk hsz => callsIn_wide.2 (AnyM.slices_Sort_string Try.sort77 blk off cap ss W hH hblk hsz),
   fun p cap W => callsIn_wide.2 (AnyM.slices_Sort_string_none Try.sort77 p cap W)⟩

theorem mapsKeysInt (mb : Option Nat) (W : World) : Calls Try.prog 70 #[.map mb] W fun e w' => e = .returned (.func (.func 78) #[] #[.pointer (some ⟨W.heap.size, 0, none⟩)]) ∧ w' = W.alloc (.cells #[.map mb] 91) :=
  (callsIn_wide (n := 5)).1 (AnyZ.keys_in Try.keys70 Fence.wide 5 trivial rfl mb W)

set_option maxHeartbeats 1000000 in
theorem keysInt_any (b n : Nat) (m : Bs → Option Value) (w : World) (hm : KM Try.prog 9 Value.string w b n m) (hn : n ≤ 100000) :
    Calls Try.prog 59 #[.map (some b)] w fun e w' => (∃ (v : Value) (r : List Bs), e = .returned v ∧ RisS r ∧ (∀ x, x ∈ r ↔ x.size ≤ maxLen ∧ (m x).isSome = true) ∧ r.length ≤ n ∧ w'.ownsRow w.heap.size 9 1 v r.length (r.map Value.string)) ∧ Below w.heap.size w w' := by
  obtain ⟨D, hown, hD⟩ := hm
  have hbl := hown.lt
  have hsz := hown.size_le
  obtain ⟨k1, k2, k3⟩ := keys_spec hown
  obtain ⟨W, hW⟩ : ∃ W, W = w.alloc (.cells #[.map (some b)] 91) := ⟨_, rfl⟩
  have hseq : SeqGives Fence.wide 2 Try.prog 78 #[.pointer (some ⟨w.heap.size, 0, none⟩)] encStr (fun ss => ss.Perm (strKeys D)) (Maps.size D) W := by
    rw [hW]
    exact AnyZ.keys_gives (ρ := Try.keys70_ren) { Try.keys70 with } Fence.wide _ trivial rfl (by omega) w.heap.size b n D _ (by simp) (by simp) (by
      obtain ⟨es, clock, hb, Ft, hs, hD⟩ := hown
      exact ⟨es, clock, (Below.heap_alloc _ _ b hbl).trans hb, Ft, hs, hD⟩)
  have qs := hide ((callsIn_wide (n := 5)).1 (AnyZ.sorted_in Try.sorted69 Fence.wide 5 trivial trivial trivial trivial rfl (by omega) (sorts107 _) (enters_of Try.func77 (by kernel_rfl) rfl) 78 #[.pointer (some ⟨w.heap.size, 0, none⟩)] trivial (enters_of Try.func78 (by kernel_rfl) rfl) _ _ (by unfold maxLen; omega) (by omega) _ hseq))
  have B0 := hide (show Below w.heap.size w W by rw [hW]; exact bAl (Below.refl _ _) _)
  have HW := hide hW.symm
  have F := hide (show ∀ (v : Value) (ss : List (List UInt8)) (w' : World), ss.Perm (strKeys D) → w'.ownsRow W.heap.size 9 1 v ss.length ((ss.mergeSort (fun x y => decide (x ≤ y))).map encStr) → ∃ r : List Bs, RisS r ∧ (∀ x, x ∈ r ↔ x.size ≤ maxLen ∧ (m x).isSome = true) ∧ r.length ≤ n ∧ w'.ownsRow w.heap.size 9 1 v r.length (r.map Value.string) from fun v ss w' hp ho => by
    have hnd : ss.Nodup := hp.nodup_iff.2 k1
    have pm := List.mergeSort_perm ss fun x y => decide (x ≤ y)
    refine ⟨_, sort_ris hnd, fun x => ?_, ?_, ?_⟩
    · rw [List.mem_map]
      constructor
      · rintro ⟨y, hy, rfl⟩
        have h1 := (hp.mem_iff).1 (pm.mem_iff.1 hy)
        have h2 := (k2 y).1 h1
        have h3 := k3 y h1
        have h4 : ((⟨y.toArray⟩ : ByteArray)).size ≤ maxLen := by show y.toArray.size ≤ _; simpa using h3
        refine ⟨h4, ?_⟩
        have h5 := (hD ⟨y.toArray⟩ _ (WideMaps.keyOf_string_mk Try.underlying9 h4)).1
        rw [← h5]
        simpa using h2
      · rintro ⟨h4, h5⟩
        refine ⟨x.data.toList, pm.mem_iff.2 (hp.mem_iff.2 ((k2 _).2 ?_)), by simp⟩
        rw [(hD x _ (WideMaps.keyOf_string_mk Try.underlying9 h4)).1]; exact h5
    · rw [List.length_map, pm.length_eq, hp.length_eq]
      refine Nat.le_trans (Nat.le_of_eq ?_) hsz
      obtain ⟨es, rfl, _⟩ := hown.keysOf
      simp [strKeys, Maps.size]
    · have e1 : ((ss.mergeSort fun x y => decide (x ≤ y)).map fun x => (⟨x.toArray⟩ : ByteArray)).length = ss.length := by rw [List.length_map, pm.length_eq]
      have e2 : ((ss.mergeSort fun x y => decide (x ≤ y)).map fun x => (⟨x.toArray⟩ : ByteArray)).map Value.string = (ss.mergeSort fun x y => decide (x ≤ y)).map encStr := by rw [List.map_map]; rfl
      rw [e1, e2]
      have hz := (unhide B0).size
      refine ⟨ho.1, ho.2.imp_right ?_⟩
      rintro ⟨g, cap, cur, h1, h2, h3⟩
      exact ⟨g, cap, cur, h1, by omega, h3⟩)
  clear hseq hW hown hD k1 k2 k3
  go_enter Try.func59, Try.ntmps59
  go_wp2_with fail
  refine (mapsKeysInt (some b) _).mono ?_
  rintro e w1 ⟨rfl, rfl⟩
  rw [unhide HW]
  go_wp2_with fail
  refine (unhide qs).mono ?_
  rintro e w2 ⟨v, ss, rfl, hp, ho, _, hb⟩
  have FN := hide (unhide F v ss w2 hp ho)
  have B2 := hide (bTr (unhide B0) hb)
  clear hp ho hb F qs HW
  go_wp2_with fail
  go_ret
  obtain ⟨r, h1, h2, h3, h4⟩ := unhide FN
  exact ⟨⟨v, r, rfl, h1, h2, h3, h4⟩, unhide B2⟩

end Go.Proofs.Ytfabfgokammmhaa
