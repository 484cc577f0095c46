/- GKeys, OPu, one behind the other. -/
import Derived.Test.YtfbncneeimikcaaGreatJ15
import Derived.Test.YtfbncneeimikcaaGreatJ13
import Derived.Test.YtfbncneeimikcaaGreatIter
import Derived.Test.YtfbncneeimikcaaGreatJ9
import Derived.Test.YtfbncneeimikcaaGreatJ10
/- impl.keysInOrder: the keys of a map, rising. -/
namespace Go.Proofs.YtfbncneeimikcaaGreat
open Go.RowKit Go.Maps Go.Sort Go.Shelf

theorem cmpT_lt : ∀ a b : List UInt8, cmpT a b < 0 ↔ a < b
  | [], [] => by simp [cmpT]
  | [], b :: y => by simp [cmpT]
  | a :: x, [] => by simp [cmpT]
  | a :: x, b :: y => by
    rw [List.cons_lt_cons_iff]
    unfold cmpT
    by_cases e : a = b
    · subst e
      rw [if_pos rfl, cmpT_lt x y]
      have : ¬ a < a := fun h => by rw [UInt8.lt_iff_toNat_lt] at h; omega
      simp [this]
    · rw [if_neg e]
      have h1 : cmpN a.toNat b.toNat < 0 ↔ a < b := by
        rw [UInt8.lt_iff_toNat_lt]
        unfold cmpN
        repeat (any_goals split)
        all_goals omega
      rw [h1]
      simp [e]
/-- Texts that rise. -/
def RisS (r : List Bs) : Prop := r.Pairwise fun a b => cmpB a b < 0
theorem cmpB_irr (a : Bs) : ¬ cmpB a a < 0 := by unfold cmpB; rw [cmpT_self]; omega
theorem cmpB_tr (a b c : Bs) (h1 : cmpB a b < 0) (h2 : cmpB b c < 0) : cmpB a c < 0 := by
  unfold cmpB at *
  rw [cmpT_lt] at *
  exact List.lt_trans h1 h2
theorem cmpB_zero {a b : Bs} (h : cmpB a b = 0) : a = b := by
  have := cmpT_zero (a := a.data.toList) (b := b.data.toList) h
  have e : a.data = b.data := Array.toList_inj.1 this
  cases a; cases b; simp at e; rw [e]
theorem RisS.ext {r s : List Bs} (hr : RisS r) (hs : RisS s) (h : ∀ x, x ∈ r ↔ x ∈ s) : r = s := rising_ext _ cmpB_irr cmpB_tr r s hr hs h

theorem toB_toArray (x : List UInt8) : ((⟨x.toArray⟩ : ByteArray)).data.toList = x := by simp
theorem sort_ris {ss : List (List UInt8)} (hn : ss.Nodup) : RisS ((ss.mergeSort fun x y => decide (x ≤ y)).map fun x => (⟨x.toArray⟩ : ByteArray)) := by
  unfold RisS
  rw [List.pairwise_map]
  have tr : ∀ a b c : List UInt8, decide (a ≤ b) = true → decide (b ≤ c) = true → decide (a ≤ c) = true := fun a b c h1 h2 => by simp only [decide_eq_true_eq] at *; exact List.le_trans h1 h2
  have to : ∀ a b : List UInt8, (decide (a ≤ b) || decide (b ≤ a)) = true := fun a b => by simp only [Bool.or_eq_true, decide_eq_true_eq]; exact List.le_total a b
  have h1 := List.pairwise_mergeSort tr to ss
  have h2 : (ss.mergeSort fun x y => decide (x ≤ y)).Nodup := (List.mergeSort_perm ss _).nodup_iff.2 hn
  refine (h1.and h2).imp fun {a b} h => ?_
  have h3 := h.1
  simp only [decide_eq_true_eq] at h3
  show cmpT a b < 0
  rw [cmpT_lt]
  rcases List.le_iff_lt_or_eq.1 h3 with h4 | h4
  · exact h4
  · exact absurd h4 h.2

/-- The keys of a map of strings. -/
theorem keys_spec {w : World} {b n : Nat} {D : DataW Value} (hown : w.ownsMap Tryz.prog 9 hvR b n D) : (strKeys D).Nodup ∧ (∀ x, x ∈ strKeys D ↔ Maps.has D (.string x) = true) ∧ (∀ x ∈ strKeys D, x.length ≤ maxLen) := by
  refine ⟨?_, ?_, strKeys_le hown Tryz.underlying9⟩
  · obtain ⟨es, hD, hpw, _⟩ := hown.entries (string_keyed Tryz.underlying9)
    obtain ⟨es', hD', hko⟩ := hown.keysOf
    obtain rfl : es = es' := by rw [hD] at hD'; simpa using hD'
    subst hD
    show (es.map fun p => strOf p.1).Nodup
    refine List.pairwise_map.2 (hpw.imp_of_mem fun {p q} hp' hq' hne e => hne ?_)
    obtain ⟨v, hv⟩ := hko p hp'
    obtain ⟨_, _, ha, _⟩ := Maps.keyOf_str Tryz.underlying9 hv
    obtain ⟨v', hv'⟩ := hko q hq'
    obtain ⟨_, _, hb, _⟩ := Maps.keyOf_str Tryz.underlying9 hv'
    rw [ha, hb] at e ⊢
    exact congrArg _ e
  · obtain ⟨es, rfl, hko⟩ := hown.keysOf
    intro x
    rw [has_eq, List.any_eq_true]
    show x ∈ es.map (fun p => strOf p.1) ↔ _
    rw [List.mem_map]
    constructor
    · rintro ⟨p, hp', rfl⟩
      obtain ⟨v, hv⟩ := hko p hp'
      obtain ⟨_, _, ha, _⟩ := Maps.keyOf_str Tryz.underlying9 hv
      exact ⟨p, hp', by rw [ha]; simp [Lit.sameKey, strOf]⟩
    · rintro ⟨p, hp', hs⟩
      obtain ⟨v, hv⟩ := hko p hp'
      obtain ⟨_, _, ha, _⟩ := Maps.keyOf_str Tryz.underlying9 hv
      rw [ha] at hs
      exact ⟨p, hp', by rw [ha]; simpa [Lit.sameKey, strOf] using hs⟩

theorem sorts107 (m : Nat) : AnyZ.SortsIn Tryz.prog Tryz.sorted65_ren Fence.wide m :=
  ⟨fun blk off cap ss W hH hblk hsz => callsIn_wide.2 (AnyM.slices_Sort_string Tryz.sort94 blk off cap ss W hH hblk hsz),
   fun p cap W => callsIn_wide.2 (AnyM.slices_Sort_string_none Tryz.sort94 p cap W)⟩

theorem mapsKeysInt (mb : Option Nat) (W : World) : Calls Tryz.prog 97 #[.map mb] W fun e w' => e = .returned (.func (.func 117) #[] #[.pointer (some ⟨W.heap.size, 0, none⟩)]) ∧ w' = W.alloc (.cells #[.map mb] 130) :=
  (callsIn_wide (n := 5)).1 (AnyZ.keys_in Tryz.keys97 Fence.wide 5 trivial rfl mb W)

set_option maxHeartbeats 1000000 in
theorem keysInt_any (b n : Nat) (m : Bs → Option Value) (w : World) (hm : KM Tryz.prog 9 Value.string w b n m) (hn : n ≤ 100000) :
    Calls Tryz.prog 68 #[.map (some b)] w fun e w' => (∃ (v : Value) (r : List Bs), e = .returned v ∧ RisS r ∧ (∀ x, x ∈ r ↔ x.size ≤ maxLen ∧ (m x).isSome = true) ∧ r.length ≤ n ∧ w'.ownsRow w.heap.size 9 1 v r.length (r.map Value.string)) ∧ Below w.heap.size w w' := by
  obtain ⟨D, hown, hD⟩ := hm
  have hbl := hown.lt
  have hsz := hown.size_le
  obtain ⟨k1, k2, k3⟩ := keys_spec hown
  obtain ⟨W, hW⟩ : ∃ W, W = w.alloc (.cells #[.map (some b)] 130) := ⟨_, rfl⟩
  have hseq : SeqGives Fence.wide 2 Tryz.prog 117 #[.pointer (some ⟨w.heap.size, 0, none⟩)] encStr (fun ss => ss.Perm (strKeys D)) (Maps.size D) W := by
    rw [hW]
    exact AnyZ.keys_gives (ρ := Tryz.keys97_ren) { Tryz.keys97 with } Fence.wide _ trivial rfl (by omega) w.heap.size b n D _ (by simp) (by simp) (by
      obtain ⟨es, clock, hb, Ft, hs, hD⟩ := hown
      exact ⟨es, clock, (Below.heap_alloc _ _ b hbl).trans hb, Ft, hs, hD⟩)
  have qs := hide ((callsIn_wide (n := 5)).1 (AnyZ.sorted_in Tryz.sorted65 Fence.wide 5 trivial trivial trivial trivial rfl (by omega) (sorts107 _) (enters_of Tryz.func94 (by kernel_rfl) rfl) 117 #[.pointer (some ⟨w.heap.size, 0, none⟩)] trivial (enters_of Tryz.func117 (by kernel_rfl) rfl) _ _ (by unfold maxLen; omega) (by omega) _ hseq))
  have B0 := hide (show Below w.heap.size w W by rw [hW]; exact bAl (Below.refl _ _) _)
  have HW := hide hW.symm
  have F := hide (show ∀ (v : Value) (ss : List (List UInt8)) (w' : World), ss.Perm (strKeys D) → w'.ownsRow W.heap.size 9 1 v ss.length ((ss.mergeSort (fun x y => decide (x ≤ y))).map encStr) → ∃ r : List Bs, RisS r ∧ (∀ x, x ∈ r ↔ x.size ≤ maxLen ∧ (m x).isSome = true) ∧ r.length ≤ n ∧ w'.ownsRow w.heap.size 9 1 v r.length (r.map Value.string) from fun v ss w' hp ho => by
    have hnd : ss.Nodup := hp.nodup_iff.2 k1
    have pm := List.mergeSort_perm ss fun x y => decide (x ≤ y)
    refine ⟨_, sort_ris hnd, fun x => ?_, ?_, ?_⟩
    · rw [List.mem_map]
      constructor
      · rintro ⟨y, hy, rfl⟩
        have h1 := (hp.mem_iff).1 (pm.mem_iff.1 hy)
        have h2 := (k2 y).1 h1
        have h3 := k3 y h1
        have h4 : ((⟨y.toArray⟩ : ByteArray)).size ≤ maxLen := by show y.toArray.size ≤ _; simpa using h3
        refine ⟨h4, ?_⟩
        have h5 := (hD ⟨y.toArray⟩ _ (WideMaps.keyOf_string_mk Tryz.underlying9 h4)).1
        rw [← h5]
        simpa using h2
      · rintro ⟨h4, h5⟩
        refine ⟨x.data.toList, pm.mem_iff.2 (hp.mem_iff.2 ((k2 _).2 ?_)), by simp⟩
        rw [(hD x _ (WideMaps.keyOf_string_mk Tryz.underlying9 h4)).1]; exact h5
    · rw [List.length_map, pm.length_eq, hp.length_eq]
      refine Nat.le_trans (Nat.le_of_eq ?_) hsz
      obtain ⟨es, rfl, _⟩ := hown.keysOf
      simp [strKeys, Maps.size]
    · have e1 : ((ss.mergeSort fun x y => decide (x ≤ y)).map fun x => (⟨x.toArray⟩ : ByteArray)).length = ss.length := by rw [List.length_map, pm.length_eq]
      have e2 : ((ss.mergeSort fun x y => decide (x ≤ y)).map fun x => (⟨x.toArray⟩ : ByteArray)).map Value.string = (ss.mergeSort fun x y => decide (x ≤ y)).map encStr := by rw [List.map_map]; rfl
      rw [e1, e2]
      have hz := (unhide B0).size
      refine ⟨ho.1, ho.2.imp_right ?_⟩
      rintro ⟨g, cap, cur, h1, h2, h3⟩
      exact ⟨g, cap, cur, h1, by omega, h3⟩)
  clear hseq hW hown hD k1 k2 k3
  go_enter Tryz.func68, Tryz.ntmps68
  go_wp2_with fail
  refine (mapsKeysInt (some b) _).mono ?_
  rintro e w1 ⟨rfl, rfl⟩
  rw [unhide HW]
  go_wp2_with fail
  refine (unhide qs).mono ?_
  rintro e w2 ⟨v, ss, rfl, hp, ho, _, hb⟩
  have FN := hide (unhide F v ss w2 hp ho)
  have B2 := hide (bTr (unhide B0) hb)
  clear hp ho hb F qs HW
  go_wp2_with fail
  go_ret
  obtain ⟨r, h1, h2, h3, h4⟩ := unhide FN
  exact ⟨⟨v, r, rfl, h1, h2, h3, h4⟩, unhide B2⟩

theorem mapsKeysSet (mb : Option Nat) (W : World) : Calls Tryz.prog 66 #[.map mb] W fun e w' => e = .returned (.func (.func 95) #[] #[.pointer (some ⟨W.heap.size, 0, none⟩)]) ∧ w' = W.alloc (.cells #[.map mb] 77) :=
  (callsIn_wide (n := 5)).1 (AnyZ.keys_in Tryz.keys66 Fence.wide 5 trivial rfl mb W)

set_option maxHeartbeats 1000000 in
theorem keysSet_any (b n : Nat) (m : Bs → Option Value) (w : World) (hm : KM Tryz.prog 9 Value.string w b n m) (hn : n ≤ 100000) :
    Calls Tryz.prog 33 #[.map (some b)] w fun e w' => (∃ (v : Value) (r : List Bs), e = .returned v ∧ RisS r ∧ (∀ x, x ∈ r ↔ x.size ≤ maxLen ∧ (m x).isSome = true) ∧ r.length ≤ n ∧ w'.ownsRow w.heap.size 9 1 v r.length (r.map Value.string)) ∧ Below w.heap.size w w' := by
  obtain ⟨D, hown, hD⟩ := hm
  have hbl := hown.lt
  have hsz := hown.size_le
  obtain ⟨k1, k2, k3⟩ := keys_spec hown
  obtain ⟨W, hW⟩ : ∃ W, W = w.alloc (.cells #[.map (some b)] 77) := ⟨_, rfl⟩
  have hseq : SeqGives Fence.wide 2 Tryz.prog 95 #[.pointer (some ⟨w.heap.size, 0, none⟩)] encStr (fun ss => ss.Perm (strKeys D)) (Maps.size D) W := by
    rw [hW]
    exact AnyZ.keys_gives (ρ := Tryz.keys66_ren) { Tryz.keys66 with } Fence.wide _ trivial rfl (by omega) w.heap.size b n D _ (by simp) (by simp) (by
      obtain ⟨es, clock, hb, Ft, hs, hD⟩ := hown
      exact ⟨es, clock, (Below.heap_alloc _ _ b hbl).trans hb, Ft, hs, hD⟩)
  have qs := hide ((callsIn_wide (n := 5)).1 (AnyZ.sorted_in Tryz.sorted65 Fence.wide 5 trivial trivial trivial trivial rfl (by omega) (sorts107 _) (enters_of Tryz.func94 (by kernel_rfl) rfl) 95 #[.pointer (some ⟨w.heap.size, 0, none⟩)] trivial (enters_of Tryz.func95 (by kernel_rfl) rfl) _ _ (by unfold maxLen; omega) (by omega) _ hseq))
  have B0 := hide (show Below w.heap.size w W by rw [hW]; exact bAl (Below.refl _ _) _)
  have HW := hide hW.symm
  have F := hide (show ∀ (v : Value) (ss : List (List UInt8)) (w' : World), ss.Perm (strKeys D) → w'.ownsRow W.heap.size 9 1 v ss.length ((ss.mergeSort (fun x y => decide (x ≤ y))).map encStr) → ∃ r : List Bs, RisS r ∧ (∀ x, x ∈ r ↔ x.size ≤ maxLen ∧ (m x).isSome = true) ∧ r.length ≤ n ∧ w'.ownsRow w.heap.size 9 1 v r.length (r.map Value.string) from fun v ss w' hp ho => by
    have hnd : ss.Nodup := hp.nodup_iff.2 k1
    have pm := List.mergeSort_perm ss fun x y => decide (x ≤ y)
    refine ⟨_, sort_ris hnd, fun x => ?_, ?_, ?_⟩
    · rw [List.mem_map]
      constructor
      · rintro ⟨y, hy, rfl⟩
        have h1 := (hp.mem_iff).1 (pm.mem_iff.1 hy)
        have h2 := (k2 y).1 h1
        have h3 := k3 y h1
        have h4 : ((⟨y.toArray⟩ : ByteArray)).size ≤ maxLen := by show y.toArray.size ≤ _; simpa using h3
        refine ⟨h4, ?_⟩
        have h5 := (hD ⟨y.toArray⟩ _ (WideMaps.keyOf_string_mk Tryz.underlying9 h4)).1
        rw [← h5]
        simpa using h2
      · rintro ⟨h4, h5⟩
        refine ⟨x.data.toList, pm.mem_iff.2 (hp.mem_iff.2 ((k2 _).2 ?_)), by simp⟩
        rw [(hD x _ (WideMaps.keyOf_string_mk Tryz.underlying9 h4)).1]; exact h5
    · rw [List.length_map, pm.length_eq, hp.length_eq]
      refine Nat.le_trans (Nat.le_of_eq ?_) hsz
      obtain ⟨es, rfl, _⟩ := hown.keysOf
      simp [strKeys, Maps.size]
    · have e1 : ((ss.mergeSort fun x y => decide (x ≤ y)).map fun x => (⟨x.toArray⟩ : ByteArray)).length = ss.length := by rw [List.length_map, pm.length_eq]
      have e2 : ((ss.mergeSort fun x y => decide (x ≤ y)).map fun x => (⟨x.toArray⟩ : ByteArray)).map Value.string = (ss.mergeSort fun x y => decide (x ≤ y)).map encStr := by rw [List.map_map]; rfl
      rw [e1, e2]
      have hz := (unhide B0).size
      refine ⟨ho.1, ho.2.imp_right ?_⟩
      rintro ⟨g, cap, cur, h1, h2, h3⟩
      exact ⟨g, cap, cur, h1, by omega, h3⟩)
  clear hseq hW hown hD k1 k2 k3
  go_enter Tryz.func33, Tryz.ntmps33
  go_wp2_with fail
  refine (mapsKeysSet (some b) _).mono ?_
  rintro e w1 ⟨rfl, rfl⟩
  rw [unhide HW]
  go_wp2_with fail
  refine (unhide qs).mono ?_
  rintro e w2 ⟨v, ss, rfl, hp, ho, _, hb⟩
  have FN := hide (unhide F v ss w2 hp ho)
  have B2 := hide (bTr (unhide B0) hb)
  clear hp ho hb F qs HW
  go_wp2_with fail
  go_ret
  obtain ⟨r, h1, h2, h3, h4⟩ := unhide FN
  exact ⟨⟨v, r, rfl, h1, h2, h3, h4⟩, unhide B2⟩

end Go.Proofs.YtfbncneeimikcaaGreat
/- Sets of roles: what is asked of them, and what comes under what. Pure. -/
namespace Go.Proofs.YtfbncneeimikcaaGreat.V
set_option linter.unusedSimpArgs false
open Go.RowKit Go.Maps

theorem cmpN_both (a b : Int) : Go.Proofs.YtfbncneeimikcaaGreat.cmpN a b = cmpN a b := rfl
theorem cmpT_both : ∀ a b : List UInt8, Go.Proofs.YtfbncneeimikcaaGreat.cmpT a b = cmpT a b
  | [], [] => rfl
  | [], _ :: _ => rfl
  | _ :: _, [] => rfl
  | a :: x, b :: y => by
    show (if a = b then Go.Proofs.YtfbncneeimikcaaGreat.cmpT x y else _) = (if a = b then cmpT x y else _)
    rw [cmpT_both x y]; rfl
theorem cmpB_both (a b : ByteArray) : Go.Proofs.YtfbncneeimikcaaGreat.cmpB a b = cmpT a.data.toList b.data.toList := cmpT_both _ _
/-- Texts that rise, one behind the other. -/
def RisT (l : List ByteArray) : Prop := ∀ i (h : i + 1 < l.length), cmpT l[i].data.toList l[i + 1].data.toList < 0
theorem RisT.tail {x : ByteArray} {l : List ByteArray} (h : RisT (x :: l)) : RisT l := fun i hi => h (i + 1) (by simpa using hi)
theorem RisT.risS : ∀ {l : List ByteArray}, RisT l → RisS l
  | [], _ => List.Pairwise.nil
  | [x], _ => List.pairwise_singleton _ _
  | x :: y :: l, h => by
    have h1 : RisS (y :: l) := h.tail.risS
    refine List.pairwise_cons.2 ⟨fun z hz => ?_, h1⟩
    have h0 : cmpB x y < 0 := by rw [cmpB_both]; exact h 0 (by simp)
    rcases List.mem_cons.1 hz with e | e
    · rw [e]; exact h0
    · exact cmpB_tr _ _ _ h0 ((List.pairwise_cons.1 h1).1 z e)
theorem RisT.nodup {l : List ByteArray} (h : RisT l) : l.Nodup := h.risS.imp fun {a b} hab e => by subst e; exact cmpB_irr a hab

def AllR (ns l : List ByteArray) : Prop := (∀ s ∈ l, s ∈ ns) ∧ RisT l
def GPm (l : List ByteArray) : Prop := (l.length ≤ 20 ∧ ∀ p ∈ l, goodName p = true) ∧ RisT l
def GRo (r : RoleT) : Prop := goodName r.f0 = true ∧ GPm r.f2
def GAp (ns : List ByteArray) (p : ApartT) : Prop := AllR ns p.f0 ∧ 1 ≤ p.f1 ∧ p.f1 < p.f0.length
def nms (rs : List RoleT) : List ByteArray := rs.map (·.f0)
/-- b stands under a. -/
def Edg (rs : List RoleT) (a b : ByteArray) : Prop := ∃ r ∈ rs, r.f0 = a ∧ b ∈ r.f1
/-- b comes under a, by way of others or not. -/
def Rch (rs : List RoleT) (a b : ByteArray) : Prop := ∃ n, 1 ≤ n ∧ Walk (Edg rs) n a b
/-- The roles, but for going under. -/
def GIn (rs : List RoleT) : Prop := (rs.length ≤ 30 ∧ ∀ r ∈ rs, GRo r) ∧ RisT (nms rs)
def GUn (rs : List RoleT) : Prop := ∀ r ∈ rs, AllR (nms rs) r.f1
def GEnd (rs : List RoleT) : Prop := ∀ r ∈ rs, ¬ Rch rs r.f0 r.f0
def GPa (rs : List RoleT) (ps : List ApartT) : Prop := ps.length ≤ 10 ∧ ∀ p ∈ ps, GAp (nms rs) p
/-- The set is good. -/
def GRs (x : RoleSetT) : Prop := GIn x.f0 ∧ GUn x.f0 ∧ GEnd x.f0 ∧ GPa x.f0 x.f1 ∧ AllR (nms x.f0) x.f2

theorem rch_dist {rs : List RoleT} {a b : ByteArray} : Rch rs a b ↔ ∃ n, Dist (Edg rs) a b n :=
  ⟨fun ⟨n, h1, h2⟩ => by obtain ⟨m, _, h⟩ := h2.dist h1; exact ⟨m, h⟩, fun ⟨n, h⟩ => ⟨n, h.1, h.2.1⟩⟩
theorem Rch.step {rs : List RoleT} {a b c : ByteArray} (h : Rch rs a b) (k : Edg rs b c) : Rch rs a c := by
  obtain ⟨n, h1, h2⟩ := h
  exact ⟨n + 1, by omega, b, h2, k⟩
theorem Rch.one {rs : List RoleT} {a b : ByteArray} (h : Edg rs a b) : Rch rs a b := ⟨1, Nat.le_refl _, a, rfl, h⟩
theorem edg_in {rs : List RoleT} (hu : GUn rs) {a b : ByteArray} (h : Edg rs a b) : a ∈ nms rs ∧ b ∈ nms rs := by
  obtain ⟨r, hr, rfl, hb⟩ := h
  exact ⟨List.mem_map.2 ⟨r, hr, rfl⟩, (hu r hr).1 b hb⟩
theorem rch_in {rs : List RoleT} (hu : GUn rs) {a b : ByteArray} (h : Rch rs a b) : b ∈ nms rs := by
  obtain ⟨n, h1, h2⟩ := h
  obtain ⟨m, rfl⟩ : ∃ m, n = m + 1 := ⟨n - 1, by omega⟩
  obtain ⟨c, _, he⟩ := h2
  exact (edg_in hu he).2
/-- The roles by their names: the first one of each name. -/
def fstR (rs : List RoleT) (s : ByteArray) : Option RoleT := rs.find? fun c => decide (c.f0 = s)
/-- What stands under a name. -/
def undR (rs : List RoleT) (s : ByteArray) : List ByteArray := ((fstR rs s).map (·.f1)).getD []
theorem nodup_one {rs : List RoleT} (h : (nms rs).Nodup) : ∀ {r r' : RoleT}, r ∈ rs → r' ∈ rs → r.f0 = r'.f0 → r = r' := by
  induction rs with
  | nil => intro r r' h1; cases h1
  | cons x rs ih =>
    intro r r' h1 h2 e
    have hn := List.nodup_cons.1 h
    rcases List.mem_cons.1 h1 with e1 | e1 <;> rcases List.mem_cons.1 h2 with e2 | e2
    · rw [e1, e2]
    · exact absurd (List.mem_map.2 ⟨r', e2, by rw [← e, e1]⟩) hn.1
    · exact absurd (List.mem_map.2 ⟨r, e1, by rw [e, e2]⟩) hn.1
    · exact ih hn.2 e1 e2 e
theorem und_edg {rs : List RoleT} (h : (nms rs).Nodup) (a b : ByteArray) : b ∈ undR rs a ↔ Edg rs a b := by
  unfold undR
  cases hf : fstR rs a with
  | none =>
    refine ⟨fun hb => (by simp at hb), fun ⟨r, hr, e, _⟩ => ?_⟩
    have := (List.find?_eq_none.1 hf) r hr
    simp [e] at this
  | some r =>
    have hr := List.mem_of_find?_eq_some hf
    have he : r.f0 = a := by have := List.find?_some hf; simpa using this
    refine ⟨fun hb => ⟨r, hr, he, by simpa using hb⟩, fun ⟨r', hr', e, hb⟩ => ?_⟩
    have : r' = r := nodup_one h hr' hr (by rw [e, he])
    subst this
    simpa using hb
theorem und_self {rs : List RoleT} (h : (nms rs).Nodup) {r : RoleT} (hr : r ∈ rs) : undR rs r.f0 = r.f1 := by
  unfold undR
  cases hf : fstR rs r.f0 with
  | none =>
    have := (List.find?_eq_none.1 hf) r hr
    simp at this
  | some r' =>
    have hr' := List.mem_of_find?_eq_some hf
    have he : r'.f0 = r.f0 := by have := List.find?_some hf; simpa using this
    rw [nodup_one h hr' hr he]; rfl
/-- What comes of names by going under by P, none or more times. -/
inductive UnF (P : ByteArray → List ByteArray) (ns : List ByteArray) : ByteArray → Prop
  | base {x : ByteArray} : x ∈ ns → UnF P ns x
  | next {x y : ByteArray} : UnF P ns x → y ∈ P x → UnF P ns y
theorem unf_rch {rs : List RoleT} (h : (nms rs).Nodup) (a x : ByteArray) : UnF (undR rs) (undR rs a) x ↔ Rch rs a x := by
  constructor
  · intro hx
    induction hx with
    | base hb => exact Rch.one ((und_edg h a _).1 hb)
    | next _ hy ih => exact ih.step ((und_edg h _ _).1 hy)
  · rintro ⟨n, h1, h2⟩
    obtain ⟨m, rfl⟩ : ∃ m, n = m + 1 := ⟨n - 1, by omega⟩
    clear h1
    induction m generalizing x with
    | zero =>
      obtain ⟨c, hc, he⟩ := h2
      cases hc
      exact .base ((und_edg h a x).2 he)
    | succ m ih =>
      obtain ⟨c, hc, he⟩ := h2
      exact .next (ih c hc) ((und_edg h c x).2 he)
theorem unf_self {rs : List RoleT} (h : (nms rs).Nodup) (a x : ByteArray) : UnF (undR rs) [a] x ↔ x = a ∨ Rch rs a x := by
  constructor
  · intro hx
    induction hx with
    | base hb => exact .inl (by simpa using hb)
    | next _ hy ih =>
      rcases ih with e | e
      · rw [e] at hy; exact .inr (Rch.one ((und_edg h a _).1 hy))
      · exact .inr (e.step ((und_edg h _ _).1 hy))
  · rintro (rfl | hr)
    · exact .base (by simp)
    · have := (unf_rch h a x).2 hr
      clear hr
      induction this with
      | base hb => exact .next (.base (by simp)) hb
      | next _ hy ih => exact .next ih hy
end Go.Proofs.YtfbncneeimikcaaGreat.V
