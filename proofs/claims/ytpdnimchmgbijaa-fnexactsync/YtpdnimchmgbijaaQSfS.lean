/- impl.compareStamps as slices.SortFunc asks it; slices.SortedFunc(maps.Keys(m), compareStamps). -/
import Derived.Test.YtpdnimchmgbijaaQChD
import Derived.Test.YtpdnimchmgbijaaQSrG
import Derived.Test.YtpdnimchmgbijaaQItS
import Derived.Test.YtpdnimchmgbijaaSf
namespace Go.Proofs.Ytpdnimchmgbijaa
open Go.RowKit Go.Maps Go.Sort Go.Shelf

set_option maxHeartbeats 1000000 in
theorem compareStamps_gr (t o t' o' : Int) (w : World) :
    Calls Try.prog 32 #[.agg #[.int .i64 t, .int .i64 o], .agg #[.int .i64 t', .int .i64 o']] w fun e w' => e = .returned (.int .i64 (cmpS t o t' o')) ∧ Gr w w' := by
  unfold cmpS
  have h1 := hide (fun w => compareInt_any t t' w)
  have h2 := hide (fun w => compareInt_any o o' w)
  generalize cmpN t t' = v0 at h1 ⊢
  generalize cmpN o o' = v1 at h2 ⊢
  obtain ⟨W1, hW1⟩ : ∃ W, W = w.alloc (.cells #[.int .i64 t, .int .i64 o] 43) := ⟨_, rfl⟩
  obtain ⟨wc, hW2⟩ : ∃ W, W = W1.alloc (.cells #[.int .i64 t', .int .i64 o'] 43) := ⟨_, rfl⟩
  have z1 : W1.heap.size = w.heap.size + 1 := by rw [hW1]; simp
  have b1 : Below w.heap.size w W1 := by rw [hW1]; exact bAl (Below.refl _ _) _
  have b2 : Below W1.heap.size W1 wc := by rw [hW2]; exact bAl (Below.refl _ _) _
  have B := hide (show Gr w wc by rw [hW2, hW1]; exact ((Gr.refl w).alloc _).alloc _)
  have r1 := (show RowIs W1 w.heap.size #[.int .i64 t, .int .i64 o] 43 by rw [hW1]; exact RowIs.new _ _ _).keep b2
  have r2 := show RowIs wc (w.heap.size + 1) #[.int .i64 t', .int .i64 o'] 43 by rw [hW2, ← z1]; exact RowIs.new _ _ _
  have HW := hide (show (w.alloc (.cells #[.int .i64 t, .int .i64 o] 43)).alloc (.cells #[.int .i64 t', .int .i64 o'] 43) = wc by rw [hW2, hW1])
  have c0 := r1.at (o := 0) (v := .int .i64 t) rfl
  have c1 := r1.at (o := 1) (v := .int .i64 o) rfl
  have d0 := r2.at (o := 0) (v := .int .i64 t') rfl
  have d1 := r2.at (o := 1) (v := .int .i64 o') rfl
  have zA := r1.lt
  have zB := r2.lt
  clear hW1 hW2 z1 b1 b2 r1 r2
  go_enter Try.func32, Try.ntmps32
  go_wp2_with fail
  rw [unhide HW]
  clear HW
  go_region_held3 (fun w' => w'.cell? ⟨w.heap.size, 0, none⟩ = some (.int .i64 t) ∧ w'.cell? ⟨w.heap.size, 1, none⟩ = some (.int .i64 o) ∧ w'.cell? ⟨w.heap.size + 1, 0, none⟩ = some (.int .i64 t') ∧ w'.cell? ⟨w.heap.size + 1, 1, none⟩ = some (.int .i64 o'))
      ((refine ⟨cellB (W := wc) ?_ zA c0, cellB (W := wc) ?_ zA c1, cellB (W := wc) ?_ zB d0, cellB (W := wc) ?_ zB d1⟩ <;> (repeat (first | exact Below.refl _ _ | refine Below.drew ?_ | refine bAl ?_ _))))
      (first
        | (go_at_call_of 45 t; refine (unhide h1 _).mono ?_; rintro e w' ⟨rfl, rfl⟩)
        | (go_at_call_of 45 o; refine (unhide h2 _).mono ?_; rintro e w' ⟨rfl, rfl⟩)
        | (go_at_call 44; refine (cmpOr_any wc.heap.size v0 v1 _ ?_ ?_).mono ?_; (go_simp); (go_simp); rintro e w' ⟨rfl, rfl⟩))
  go_wp2_with fail
  go_ret
  refine ⟨rfl, (unhide B).trans ?_⟩
  (repeat (first | exact Gr.refl _ | refine Gr.drew ?_ | refine Gr.alloc ?_ _))


theorem cmpS_lt (t o t' o' : Int) : cmpS t o t' o' < 0 ↔ (t < t' ∨ (t = t' ∧ o < o')) := by
  unfold cmpS orI cmpN
  repeat (any_goals split)
  all_goals omega
def cfS (x y : Int × Int) : Int := cmpS x.1 x.2 y.1 y.2
theorem ltS (x y : Int × Int) : ltOf cfS x y = decide (x.1 < y.1 ∨ (x.1 = y.1 ∧ x.2 < y.2)) := by
  unfold ltOf cfS
  exact decide_eq_decide.2 (cmpS_lt _ _ _ _)
theorem swoS : SWO (ltOf cfS) where
  irrefl x := by rw [ltS]; simp
  trans x y z h1 h2 := by rw [ltS] at *; simp only [decide_eq_true_eq] at *; omega
  ntrans x y z h1 h2 := by rw [ltS] at *; simp only [decide_eq_false_iff_not] at *; omega
theorem cmpLaysS (blk off size : Nat) (w : World) : CmpLays Try.prog 32 #[] celS 2 cfS blk off size w := fun m os dk _ x y => by
  exact (compareStamps_gr x.1 x.2 y.1 y.2 _).mono fun e w' h => h

/-- The list of the map's keys, rising. -/
structure SrtS {H : Type} (D0 : DataW H) (ss : List (Int × Int)) : Prop where
  keys : KeysS D0 ss
  ris : ss.Pairwise (fun a b => a.1 < b.1 ∨ (a.1 = b.1 ∧ a.2 < b.2))

set_option maxRecDepth 100000 in
set_option maxHeartbeats 1000000 in
theorem sortedFuncS {H : Type} (b nn : Nat) (D0 : DataW H) {R : Value → Option (DataW H × List MemPlace)} (w : World) (hown : w.ownsMap Try.prog 43 R b nn D0) (hmax : Maps.size D0 ≤ 1000000) :
    Calls Try.prog 35 #[.func (.func 48) #[] #[.pointer (some ⟨w.heap.size, 0, none⟩)], .func (.func 32) #[] #[]] (w.alloc (.cells #[.map (some b)] 50)) fun e w' => ∃ (v : Value) (ss : List (Int × Int)), e = .returned v ∧ SrtS D0 ss ∧
      w'.ownsRow (w.alloc (.cells #[.map (some b)] 50)).heap.size 43 2 v ss.length (celsS ss) ∧ Below (w.alloc (.cells #[.map (some b)] 50)).heap.size (w.alloc (.cells #[.map (some b)] 50)) w' := by
  have hbl := hown.lt
  have hk : ∀ x, (celS x).length = 2 := fun _ => rfl
  obtain ⟨W, hW⟩ : ∃ W, W = w.alloc (.cells #[.map (some b)] 50) := ⟨_, rfl⟩
  have hseq : SeqGives Fence.wide 4 Try.prog 48 #[.pointer (some ⟨w.heap.size, 0, none⟩)] encS (fun ss => KeysS D0 ss) (Maps.size D0) W := by
    rw [hW]
    exact givesS 4 (by omega) w.heap.size b nn D0 _ (by simp) (by simp) (by
      obtain ⟨es, clock, hb, Ft, hs, hD⟩ := hown
      exact ⟨es, clock, (Below.heap_alloc _ _ b hbl).trans hb, Ft, hs, hD⟩)
  rw [← hW]
  have qc := hide (collectS 48 _ (enters_of Try.func48 (by kernel_rfl) rfl) _ (Maps.size D0) (by unfold maxLen; omega) (by omega) W hseq.bounded)
  clear hseq hW hown
  go_enter Try.func35, Try.ntmps35
  go_wp2_with fail
  refine (unhide qc).mono ?_
  rintro e w1 ⟨v, ss, rfl, ⟨hS, hlen⟩, hrow, hnil, hb⟩
  clear qc
  rcases hrow.2 with ⟨rfl, hz⟩ | ⟨gb, cap, cur, rfl, hbase, hgb, r1, r2, r3, r4⟩
  · have hss : ss = [] := List.eq_nil_of_length_eq_zero hz
    subst hss
    have qn := hide (AnyF.slices_SortFunc_none Try.sortF47 none 0 (.func (.func 32) #[] #[]) w1)
    have O := hide hrow
    have B := hide hb
    have K := hide hS
    clear hrow hb hS hnil
    go_wp2_with fail
    refine (unhide qn).mono ?_
    rintro e w2 ⟨rfl, rfl⟩
    go_wp2_with fail
    go_ret
    exact ⟨.slice none 0 0, [], rfl, ⟨unhide K, List.Pairwise.nil⟩, unhide O, unhide B⟩
  · have hgl : gb < w1.heap.size := (Array.getElem?_eq_some_iff.1 hgb).1
    have qs := hide (AnyQ.slices_SortFunc Try.sortF47 2 Try.isAgg43 Try.sizeOf43 celS hk (fun x u hu => by simp [celS] at hu; rcases hu with rfl | rfl <;> rfl) cfS swoS 32 #[] gb 0 cap ss.toArray w1
      (enters_of Try.func32 (by kernel_rfl) rfl) (cmpLaysS gb 0 _ w1) (holdsK_of hk (by omega) hgb (by rw [r4]; rfl)) hgl (by simp; omega))
    have e1 : ss.toArray.size = ss.length := by simp
    rw [e1] at qs
    have F := hide (show ∀ d' n os, PermIn 0 ss.length ss.toArray d' → SortedIn (ltOf cfS) 0 ss.length d' → SrtS D0 d'.toList ∧ (sortWorldK celS 2 w1 gb 0 n d' os).ownsRow W.heap.size 43 2 (.slice (some ⟨gb, 0, none⟩) ss.length cap) d'.toList.length (celsS d'.toList) ∧ Below W.heap.size W (sortWorldK celS 2 w1 gb 0 n d' os) from fun d' n os hp hs => by
      rw [← e1] at hp hs
      obtain ⟨z1, z2, z3⟩ := perm_sorted hp hs
      refine ⟨⟨⟨z2.nodup_iff.2 hS.1, fun x => (z2.mem_iff).trans (hS.2 x)⟩, ?_⟩, ?_, hb.grown (sortedK_grown _) hb.size (fun j hj => by cases hj; exact hbase)⟩
      · refine (z3.and (z2.nodup_iff.2 hS.1)).imp fun {a b} h => ?_
        have h1 := h.1
        rw [ltS] at h1
        simp only [decide_eq_false_iff_not] at h1
        have h2 : ¬ a = b := h.2
        obtain ⟨a1, a2⟩ := a
        obtain ⟨b1, b2⟩ := b
        simp only [Prod.mk.injEq] at h1 h2 ⊢
        omega
      · have := sortedK_own (n := n) (os := os) (base := W.heap.size) hk (by omega) (ss := ss) (ts := d'.toList) z1 hbase hgb r1 r2 r3
        rw [z1]
        exact this)
    clear hS hlen hrow hnil hb hgb r1 r2 r3 r4 e1 hbase hgl
    generalize ss.length = N at qs F
    go_wp2_with fail
    refine (unhide qs).mono ?_
    rintro e w2 ⟨rfl, d', n, os, hp, hs, rfl⟩
    have G := hide (unhide F d' n os hp hs)
    have hN := hp.1
    clear F hp hs qs
    go_wp2_with fail
    go_ret
    exact ⟨_, d'.toList, rfl, (unhide G).1, (unhide G).2.1, (unhide G).2.2⟩
end Go.Proofs.Ytpdnimchmgbijaa
