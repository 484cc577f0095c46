/- spec.SetOf. -/
import Derived.Test.YtlnmhjihfolliaaSSr
import Derived.Test.YtlnmhjihfolliaaWValT
namespace Go.Proofs.Ytlnmhjihfolliaa.V
open Go.RowKit
set_option maxRecDepth 20000
set_option linter.unusedVariables false
set_option maxHeartbeats 4000000 in
theorem sSetOf_any (a : Option Addr) (len cap : Nat) (l : List AtomT) (w : World) (hl : len ≤ maxLen) (hs : SlA w a len l) (hok : ∀ q ∈ l, AtomT.Ok q) :
    Calls Try.prog 7 #[.slice a len cap] w fun e w' => (∃ v v1 v2, e = .returned (VRet v v1 v2) ∧ VOwn w' w.heap.size v v1 v2 ∧ Hid (SetIs l v)) ∧ Below w.heap.size w w' := by
  have e1 := hs.1
  subst e1
  have b0 := bAl (Below.refl w.heap.size w) (.cells (zV 0 (.slice none 0 0) (.slice none 0 0)) 29)
  have B := hide b0
  have R := hide (RowIs.new w (zV 0 (.slice none 0 0) (.slice none 0 0)) 29)
  have HS := hide (hs.keep b0)
  obtain ⟨W, hW⟩ : ∃ W, W = w.alloc (.cells (zV 0 (.slice none 0 0) (.slice none 0 0)) 29) := ⟨_, rfl⟩
  have HW := hide (show w.alloc (.cells #[.int .i64 0, .int .i64 0, .int .i64 0, .string ⟨#[]⟩, .string ⟨#[]⟩, .slice none 0 0, .slice none 0 0] 29) = W from hW.symm)
  rw [← hW] at B R HS
  have sW : w.heap.size + 1 = W.heap.size := by rw [hW]; simp
  have HOK := hide hok
  clear hs b0 hW hok
  by_cases hz : l.length ≤ 1000
  · go_enter Try.func7, Try.ntmps7
    go_wp2_with fail
    rw [unhide HW]
    clear HW
    go_loopw [12] (fun i wx => ∃ k : Nat, k ≤ l.length ∧ i = .int .i64 k ∧ Hid (∀ x ∈ l.take k, x.good = true) ∧ Hid (Below W.heap.size W wx)) (fun i _ => l.length - (intOf i).toNat)
    case atStart => exact ⟨0, Nat.zero_le _, rfl, hide (by simp), hide (Below.refl _ _)⟩
    case round =>
      obtain ⟨k, hk, rfl, hG, hB⟩ := hrel
      replace R := hide ((unhide R).keep (unhide hB))
      replace B := hide (bTr (unhide B) (unhide hB))
      replace HS := hide ((unhide HS).keep (unhide hB))
      by_cases hlt : k < l.length
      · obtain ⟨b, off, rfl, hrow⟩ := (unhide HS).at hlt
        obtain ⟨o0, o1, o2, o3⟩ := hrow.c k hlt
        have zk := hrow.z
        have qk := hide (fun w => AtomT.isGood l[k] (unhide HOK _ (List.getElem_mem hlt)) w)
        have NG := hide (show l[k].good = false → SetIs l zVal from fun h => .inl ⟨fun g => (by have := g.2 _ (List.getElem_mem hlt); rw [h] at this; cases this), rfl⟩)
        have YG := hide (show l[k].good = true → ∀ x ∈ l.take (k + 1), x.good = true from fun h x hx => by
          rw [List.take_succ_eq_append_getElem hlt, List.mem_append, List.mem_singleton] at hx
          rcases hx with hx | rfl
          · exact unhide hG x hx
          · exact h)
        clear hrow
        generalize l[k] = A at o0 o1 o2 o3 qk NG YG
        generalize hV : A.good = V at qk NG YG
        clear hV
        go_wp2_with fail
        refine (unhide qk _).mono ?_
        rintro e w1 ⟨rfl, hb1⟩
        have b2 := bTr (bAl (Below.refl wr.heap.size wr) (.cells #[.int .i64 A.x, .int .i64 A.n, .string A.t, .string A.y] 26)) hb1
        replace R := hide ((unhide R).keep b2)
        replace B := hide (bTr (unhide B) b2)
        have B9 := hide (bTr (unhide hB) b2)
        clear hb1 b2 qk o0 o1 o2 o3
        cases V with
        | false =>
          have S := hide (unhide NG rfl)
          clear NG YG B9
          have d0 := ((unhide R)).at (o := 0) (v := .int .i64 0) rfl
          have f0 := ((unhide R)).froz 0
          have d1 := ((unhide R)).at (o := 1) (v := .int .i64 0) rfl
          have f1 := ((unhide R)).froz 1
          have d2 := ((unhide R)).at (o := 2) (v := .int .i64 0) rfl
          have f2 := ((unhide R)).froz 2
          have d3 := ((unhide R)).at (o := 3) (v := .string ⟨#[]⟩) rfl
          have f3 := ((unhide R)).froz 3
          have d4 := ((unhide R)).at (o := 4) (v := .string ⟨#[]⟩) rfl
          have f4 := ((unhide R)).froz 4
          have d5 := ((unhide R)).at (o := 5) (v := .slice none 0 0) rfl
          have f5 := ((unhide R)).froz 5
          have d6 := ((unhide R)).at (o := 6) (v := .slice none 0 0) rfl
          have f6 := ((unhide R)).froz 6
          go_wp2_with fail
          refine bodyPost_ret (v := VRet zVal (.slice none 0 0) (.slice none 0 0)) (by simp [results, Try.results7, go_sem, VRet, d0, d1, d2, d3, d4, d5, d6]) rfl ⟨⟨_, _, _, rfl, zval_own _ _, hide (unhide S)⟩, below_set7 (unhide B) (Nat.le_refl _)⟩
        | true =>
          have G9 := hide (unhide YG rfl)
          clear NG YG
          go_wp2_with fail
          exact ⟨⟨k + 1, by omega, by go_num, G9, B9⟩, by simp [intOf]; omega⟩
      · have ek : k = l.length := by omega
        subst ek
        have HG := hide (show ∀ x ∈ l, x.good = true from fun x hx => unhide hG x (by rw [List.take_length]; exact hx))
        have q2 := hide (l1Sorted_any a l.length cap l wr hz (unhide HS) (unhide HOK))
        have s1 := (unhide hB).size
        clear hG hB
        go_wp2_with fail
        refine (unhide q2).mono ?_
        rintro e w2 ⟨⟨v, r, rfl, hr⟩, hb2⟩
        replace R := hide ((unhide R).keep hb2)
        replace B := hide (bTr (unhide B) hb2)
        have s2 := hb2.size
        clear hb2 q2 HS
        obtain ⟨SR', O4'⟩ := unhide hr
        have O4 := hide O4'
        have SR := hide SR'
        clear SR' O4' hr
        obtain ⟨a2, c2, e2⟩ := own_sl (unhide O4)
        subst e2
        by_cases h5 : r.length ≤ 50
        · have S := hide (show SetIs l ⟨2, zA, r, []⟩ from .inr ⟨hz, unhide HG, r, unhide SR, .inl ⟨h5, rfl⟩⟩)
          clear SR HG
          have d0 := ((unhide R)).at (o := 0) (v := .int .i64 0) rfl
          have f0 := ((unhide R)).froz 0
          have d1 := ((unhide R)).at (o := 1) (v := .int .i64 0) rfl
          have f1 := ((unhide R)).froz 1
          have d2 := ((unhide R)).at (o := 2) (v := .int .i64 0) rfl
          have f2 := ((unhide R)).froz 2
          have d3 := ((unhide R)).at (o := 3) (v := .string ⟨#[]⟩) rfl
          have f3 := ((unhide R)).froz 3
          have d4 := ((unhide R)).at (o := 4) (v := .string ⟨#[]⟩) rfl
          have f4 := ((unhide R)).froz 4
          have d5 := ((unhide R)).at (o := 5) (v := .slice none 0 0) rfl
          have f5 := ((unhide R)).froz 5
          have d6 := ((unhide R)).at (o := 6) (v := .slice none 0 0) rfl
          have f6 := ((unhide R)).froz 6
          go_wp2_with fail
          refine bodyPost_ret (v := VRet ⟨2, zA, r, []⟩ (.slice a2 r.length c2) (.slice none 0 0)) (by simp [results, Try.results7, go_sem, VRet, d0, d1, d2, d3, d4, d5, d6]) rfl ⟨⟨_, _, _, rfl, ⟨own_set7 (unhide O4) (by omega) (by omega), World.ownsRow_nil _ _ _ _, fun g _ h => by cases h⟩, hide (unhide S)⟩, below_set7 (unhide B) (Nat.le_refl _)⟩
        · have S := hide (show SetIs l zVal from .inr ⟨hz, unhide HG, r, unhide SR, .inr ⟨by omega, rfl⟩⟩)
          clear SR HG
          have d0 := ((unhide R)).at (o := 0) (v := .int .i64 0) rfl
          have f0 := ((unhide R)).froz 0
          have d1 := ((unhide R)).at (o := 1) (v := .int .i64 0) rfl
          have f1 := ((unhide R)).froz 1
          have d2 := ((unhide R)).at (o := 2) (v := .int .i64 0) rfl
          have f2 := ((unhide R)).froz 2
          have d3 := ((unhide R)).at (o := 3) (v := .string ⟨#[]⟩) rfl
          have f3 := ((unhide R)).froz 3
          have d4 := ((unhide R)).at (o := 4) (v := .string ⟨#[]⟩) rfl
          have f4 := ((unhide R)).froz 4
          have d5 := ((unhide R)).at (o := 5) (v := .slice none 0 0) rfl
          have f5 := ((unhide R)).froz 5
          have d6 := ((unhide R)).at (o := 6) (v := .slice none 0 0) rfl
          have f6 := ((unhide R)).froz 6
          go_wp2_with fail
          refine bodyPost_ret (v := VRet zVal (.slice none 0 0) (.slice none 0 0)) (by simp [results, Try.results7, go_sem, VRet, d0, d1, d2, d3, d4, d5, d6]) rfl ⟨⟨_, _, _, rfl, zval_own _ _, hide (unhide S)⟩, below_set7 (unhide B) (Nat.le_refl _)⟩
  · have S := hide (show SetIs l zVal from .inl ⟨fun h => hz h.1, rfl⟩)
    go_enter Try.func7, Try.ntmps7
    iterate 20 (try (first | go_values | go_skip | go_guarded | go_step | go_upon | go_simp))
    rw [unhide HW]
    clear HW
    have d0 := ((unhide R)).at (o := 0) (v := .int .i64 0) rfl
    have f0 := ((unhide R)).froz 0
    have d1 := ((unhide R)).at (o := 1) (v := .int .i64 0) rfl
    have f1 := ((unhide R)).froz 1
    have d2 := ((unhide R)).at (o := 2) (v := .int .i64 0) rfl
    have f2 := ((unhide R)).froz 2
    have d3 := ((unhide R)).at (o := 3) (v := .string ⟨#[]⟩) rfl
    have f3 := ((unhide R)).froz 3
    have d4 := ((unhide R)).at (o := 4) (v := .string ⟨#[]⟩) rfl
    have f4 := ((unhide R)).froz 4
    have d5 := ((unhide R)).at (o := 5) (v := .slice none 0 0) rfl
    have f5 := ((unhide R)).froz 5
    have d6 := ((unhide R)).at (o := 6) (v := .slice none 0 0) rfl
    have f6 := ((unhide R)).froz 6
    go_wp2_with fail
    refine bodyPost_ret (v := VRet zVal (.slice none 0 0) (.slice none 0 0)) (by simp [results, Try.results7, go_sem, VRet, d0, d1, d2, d3, d4, d5, d6]) rfl ⟨⟨_, _, _, rfl, zval_own _ _, hide (unhide S)⟩, below_set7 (unhide B) (Nat.le_refl _)⟩
end Go.Proofs.Ytlnmhjihfolliaa.V
