/- impl.SetOf. -/
import Derived.Test.YtlnmhjihfolliaaSCl
import Derived.Test.YtlnmhjihfolliaaWVal
namespace Go.Proofs.Ytlnmhjihfolliaa.V
open Go.RowKit Go.Sort Go.Shelf
set_option maxRecDepth 20000
/-- What SetOf answers. -/
def SetIs (l : List AtomT) (v : ValT) : Prop :=
  (¬ (l.length ≤ 1000 ∧ ∀ x ∈ l, x.good = true) ∧ v = zVal) ∨ (l.length ≤ 1000 ∧ (∀ x ∈ l, x.good = true) ∧ ∃ r, SetR l r ∧ ((r.length ≤ 50 ∧ v = ⟨2, zA, r, []⟩) ∨ (50 < r.length ∧ v = zVal)))
theorem SetIs.uniq {l : List AtomT} {v v' : ValT} (h : SetIs l v) (k : SetIs l v') : v = v' := by
  rcases h with ⟨h1, h2⟩ | ⟨h1, h2, r, h3, h4⟩ <;> rcases k with ⟨k1, k2⟩ | ⟨k1, k2, r', k3, k4⟩
  · rw [h2, k2]
  · exact absurd ⟨k1, k2⟩ h1
  · exact absurd ⟨h1, h2⟩ k1
  · have := h3.uniq k3
    subst this
    rcases h4 with ⟨h5, h6⟩ | ⟨h5, h6⟩ <;> rcases k4 with ⟨k5, k6⟩ | ⟨k5, k6⟩
    · rw [h6, k6]
    · omega
    · omega
    · rw [h6, k6]
theorem SetIs.len {l : List AtomT} {v : ValT} (h : SetIs l v) : v.items.length ≤ 50 ∧ v.names.length ≤ 50 := by
  rcases h with ⟨_, h2⟩ | ⟨_, _, r, _, ⟨h5, h6⟩ | ⟨_, h6⟩⟩
  · rw [h2]; simp
  · rw [h6]; exact ⟨h5, by simp⟩
  · rw [h6]; simp
theorem all_of {l : List AtomT} (h : ∀ x ∈ l, x.good = true) : AllA l l.length := fun _ hi _ => h _ (List.getElem_mem hi)
theorem of_all {l : List AtomT} (h : AllA l l.length) : ∀ x ∈ l, x.good = true := fun x hx => by
  obtain ⟨i, hi, rfl⟩ := List.getElem_of_mem hx
  exact h i hi hi
theorem RowIs.keepB {B : Nat} {w w' : World} {b : Nat} {C : Array Value} {T : TypeId} (h : RowIs w b C T) (hb : Below B w w') (hlt : b < B) : RowIs w' b C T := by
  unfold V.RowIs at *; rw [hb.block b hlt]; exact h
theorem own_some {w : World} {base e size : Nat} {v : Value} {n : Nat} {xs : List Value} (h : w.ownsRow base e size v n xs) (hn : 0 < n) : ∃ g cap, v = .slice (some ⟨g, 0, none⟩) n cap ∧ base ≤ g := by
  rcases h.2 with ⟨rfl, rfl⟩ | ⟨g, cap, cur, rfl, hb, _⟩
  · omega
  · exact ⟨g, cap, rfl, hb⟩
theorem compact_nil (a : Option Addr) (cap : Nat) (w : World) :
    Calls Try.prog 17 #[.slice a 0 cap] w fun e w' => e = .returned (.slice a 0 cap) ∧ Below w.heap.size w w' := by
  go_enter Try.func17, Try.ntmps17
  go_wp2_with fail
  go_ret
  exact ⟨rfl, Below.refl _ _⟩
set_option maxHeartbeats 4000000 in
theorem iSetOf_any (a : Option Addr) (len cap : Nat) (l : List AtomT) (w : World) (hl : len ≤ maxLen) (hs : SlA w a len l) (hok : ∀ q ∈ l, AtomT.Ok q) :
    Calls Try.prog 5 #[.slice a len cap] w fun e w' => (∃ v v1 v2, e = .returned (VRet v v1 v2) ∧ VOwn w' w.heap.size v v1 v2 ∧ Hid (SetIs l v)) ∧ Below w.heap.size w w' := by
  have e1 := hs.1
  subst e1
  have b0 := bAl (Below.refl w.heap.size w) (.cells (zV 0 (.slice none 0 0) (.slice none 0 0)) 29)
  have B := hide b0
  have R := hide (RowIs.new w (zV 0 (.slice none 0 0) (.slice none 0 0)) 29)
  have HS := hide (hs.keep b0)
  obtain ⟨W, hW⟩ : ∃ W, W = w.alloc (.cells (zV 0 (.slice none 0 0) (.slice none 0 0)) 29) := ⟨_, rfl⟩
  have HW := hide (show w.alloc (.cells #[.int .i64 0, .int .i64 0, .int .i64 0, .string ⟨#[]⟩, .string ⟨#[]⟩, .slice none 0 0, .slice none 0 0] 29) = W from hW.symm)
  rw [← hW] at B R HS
  have sW : w.heap.size + 1 = W.heap.size := by rw [hW]; simp
  have HOK := hide hok
  clear hs b0 hW hok
  by_cases hz : l.length ≤ 1000
  · have q1 := hide (allGood_any a l.length cap l W hl (unhide HS) (unhide HOK))
    go_enter Try.func5, Try.ntmps5
    go_wp2_with fail
    rw [unhide HW]
    clear HW
    refine (unhide q1).mono ?_
    rintro e w1 ⟨hret, hb1⟩
    replace R := hide ((unhide R).keep hb1)
    replace B := hide (bTr (unhide B) hb1)
    replace HS := hide ((unhide HS).keep hb1)
    have s1 := hb1.size
    clear hb1 q1
    obtain ⟨bg, rfl, hbg⟩ := hret
    cases bg with
    | false =>
      have S := hide (show SetIs l zVal from .inl ⟨fun h => (by have := hbg.2 (all_of h.2); cases this), rfl⟩)
      clear hbg
      have d0 := ((unhide R)).at (o := 0) (v := .int .i64 0) rfl
      have f0 := ((unhide R)).froz 0
      have d1 := ((unhide R)).at (o := 1) (v := .int .i64 0) rfl
      have f1 := ((unhide R)).froz 1
      have d2 := ((unhide R)).at (o := 2) (v := .int .i64 0) rfl
      have f2 := ((unhide R)).froz 2
      have d3 := ((unhide R)).at (o := 3) (v := .string ⟨#[]⟩) rfl
      have f3 := ((unhide R)).froz 3
      have d4 := ((unhide R)).at (o := 4) (v := .string ⟨#[]⟩) rfl
      have f4 := ((unhide R)).froz 4
      have d5 := ((unhide R)).at (o := 5) (v := .slice none 0 0) rfl
      have f5 := ((unhide R)).froz 5
      have d6 := ((unhide R)).at (o := 6) (v := .slice none 0 0) rfl
      have f6 := ((unhide R)).froz 6
      go_wp2_with fail
      refine bodyPost_ret (v := VRet zVal (.slice none 0 0) (.slice none 0 0)) (by simp [results, Try.results5, go_sem, VRet, d0, d1, d2, d3, d4, d5, d6]) rfl ⟨⟨_, _, _, rfl, zval_own _ _, hide (unhide S)⟩, below_set7 (unhide B) (Nat.le_refl _)⟩
    | true =>
      have HG := hide (show ∀ x ∈ l, x.good = true ∧ x.Ok from fun x hx => ⟨of_all (hbg.1 rfl) x hx, unhide HOK x hx⟩)
      clear hbg
      have q2 := hide (clone_any a l.length cap l w1 hz (unhide HS))
      go_wp2_with fail
      refine (unhide q2).mono ?_
      rintro e w2 ⟨⟨v, rfl, hown⟩, hb2⟩
      replace R := hide ((unhide R).keep hb2)
      replace B := hide (bTr (unhide B) hb2)
      have s2 := hb2.size
      clear hb2 q2 HS
      by_cases h0 : l.length = 0
      · have hnil := List.eq_nil_of_length_eq_zero h0
        subst hnil
        obtain ⟨a2, c2, e2⟩ := own_sl (unhide hown)
        subst e2
        have q3 := hide (fun w => AnyF.slices_SortFunc_none Try.sortF15 a2 c2 (.func (.func 16) #[] #[]) w)
        have q4 := hide (fun w => compact_nil a2 c2 w)
        have S := hide (show SetIs [] ⟨2, zA, [], []⟩ from .inr ⟨by simp, by simp, [], SetR.nil, .inl ⟨by simp, rfl⟩⟩)
        clear HG HOK h0 hz hl
        go_wp2_with fail
        refine (unhide q3 _).mono ?_
        rintro e w3 ⟨rfl, rfl⟩
        go_wp2_with fail
        refine (unhide q4 _).mono ?_
        rintro e w4 ⟨rfl, hb4⟩
        replace R := hide ((unhide R).keep hb4)
        replace B := hide (bTr (unhide B) hb4)
        have O4 := hide (own_keepT (unhide hown) hb4)
        have s4 := hb4.size
        clear hb4 hown
        have d0 := ((unhide R)).at (o := 0) (v := .int .i64 0) rfl
        have f0 := ((unhide R)).froz 0
        have d1 := ((unhide R)).at (o := 1) (v := .int .i64 0) rfl
        have f1 := ((unhide R)).froz 1
        have d2 := ((unhide R)).at (o := 2) (v := .int .i64 0) rfl
        have f2 := ((unhide R)).froz 2
        have d3 := ((unhide R)).at (o := 3) (v := .string ⟨#[]⟩) rfl
        have f3 := ((unhide R)).froz 3
        have d4 := ((unhide R)).at (o := 4) (v := .string ⟨#[]⟩) rfl
        have f4 := ((unhide R)).froz 4
        have d5 := ((unhide R)).at (o := 5) (v := .slice none 0 0) rfl
        have f5 := ((unhide R)).froz 5
        have d6 := ((unhide R)).at (o := 6) (v := .slice none 0 0) rfl
        have f6 := ((unhide R)).froz 6
        go_wp2_with fail
        refine bodyPost_ret (v := VRet ⟨2, zA, [], []⟩ (.slice a2 0 c2) (.slice none 0 0)) (by simp [results, Try.results5, go_sem, VRet, d0, d1, d2, d3, d4, d5, d6]) rfl ⟨⟨_, _, _, rfl, ⟨own_set7 (unhide O4) (by omega) (by omega), World.ownsRow_nil _ _ _ _, fun g _ h => by cases h⟩, hide (unhide S)⟩, below_set7 (unhide B) (Nat.le_refl _)⟩
      · obtain ⟨g, c2, e2, hg⟩ := own_some (unhide hown) (by omega)
        subst e2
        have q3 := hide (sortAtoms l (unhide HG) g c2 w1.heap.size w2 hz (unhide hown))
        go_wp2_with fail
        refine (unhide q3).mono ?_
        rintro e w3 ⟨rfl, l', hl'⟩
        obtain ⟨hp, hsr, ho3, hb3⟩ := unhide hl'
        have lt2 : w.heap.size < w1.heap.size := by omega
        replace R := hide (RowIs.keepB (unhide R) hb3 lt2)
        replace B := hide ((unhide B).trans (hb3.mono (by omega)))
        have s3 := hb3.size
        have elen : l'.length = l.length := hp.length_eq
        have q4 := hide (compact_any l' g c2 w1.heap.size w3 (by omega) hsr (by rw [elen]; exact ho3))
        rw [elen] at q4
        have HP := hide hp
        clear hp hsr ho3 hb3 hl' q3 hown elen
        go_wp2_with fail
        refine (unhide q4).mono ?_
        rintro e w4 ⟨⟨r, rfl, hr⟩, hb4⟩
        replace R := hide (RowIs.keepB (unhide R) hb4 lt2)
        replace B := hide ((unhide B).trans (hb4.mono (by omega)))
        have s4 := hb4.size
        have O4 := hide (unhide hr).2
        have SR := hide (show SetR l r from ⟨(unhide hr).1.ris, fun x => ((unhide hr).1.mem x).trans (unhide HP).mem_iff⟩)
        clear hb4 q4 hr HP
        by_cases h5 : r.length ≤ 50
        · have S := hide (show SetIs l ⟨2, zA, r, []⟩ from .inr ⟨hz, fun x hx => (unhide HG x hx).1, r, unhide SR, .inl ⟨h5, rfl⟩⟩)
          clear SR HG
          have d0 := ((unhide R)).at (o := 0) (v := .int .i64 0) rfl
          have f0 := ((unhide R)).froz 0
          have d1 := ((unhide R)).at (o := 1) (v := .int .i64 0) rfl
          have f1 := ((unhide R)).froz 1
          have d2 := ((unhide R)).at (o := 2) (v := .int .i64 0) rfl
          have f2 := ((unhide R)).froz 2
          have d3 := ((unhide R)).at (o := 3) (v := .string ⟨#[]⟩) rfl
          have f3 := ((unhide R)).froz 3
          have d4 := ((unhide R)).at (o := 4) (v := .string ⟨#[]⟩) rfl
          have f4 := ((unhide R)).froz 4
          have d5 := ((unhide R)).at (o := 5) (v := .slice none 0 0) rfl
          have f5 := ((unhide R)).froz 5
          have d6 := ((unhide R)).at (o := 6) (v := .slice none 0 0) rfl
          have f6 := ((unhide R)).froz 6
          go_wp2_with fail
          refine bodyPost_ret (v := VRet ⟨2, zA, r, []⟩ (.slice (some ⟨g, 0, none⟩) r.length c2) (.slice none 0 0)) (by simp [results, Try.results5, go_sem, VRet, d0, d1, d2, d3, d4, d5, d6]) rfl ⟨⟨_, _, _, rfl, ⟨own_set7 (unhide O4) (by omega) (by omega), World.ownsRow_nil _ _ _ _, fun g _ h => by cases h⟩, hide (unhide S)⟩, below_set7 (unhide B) (Nat.le_refl _)⟩
        · have S := hide (show SetIs l zVal from .inr ⟨hz, fun x hx => (unhide HG x hx).1, r, unhide SR, .inr ⟨by omega, rfl⟩⟩)
          clear SR HG
          have d0 := ((unhide R)).at (o := 0) (v := .int .i64 0) rfl
          have f0 := ((unhide R)).froz 0
          have d1 := ((unhide R)).at (o := 1) (v := .int .i64 0) rfl
          have f1 := ((unhide R)).froz 1
          have d2 := ((unhide R)).at (o := 2) (v := .int .i64 0) rfl
          have f2 := ((unhide R)).froz 2
          have d3 := ((unhide R)).at (o := 3) (v := .string ⟨#[]⟩) rfl
          have f3 := ((unhide R)).froz 3
          have d4 := ((unhide R)).at (o := 4) (v := .string ⟨#[]⟩) rfl
          have f4 := ((unhide R)).froz 4
          have d5 := ((unhide R)).at (o := 5) (v := .slice none 0 0) rfl
          have f5 := ((unhide R)).froz 5
          have d6 := ((unhide R)).at (o := 6) (v := .slice none 0 0) rfl
          have f6 := ((unhide R)).froz 6
          go_wp2_with fail
          refine bodyPost_ret (v := VRet zVal (.slice none 0 0) (.slice none 0 0)) (by simp [results, Try.results5, go_sem, VRet, d0, d1, d2, d3, d4, d5, d6]) rfl ⟨⟨_, _, _, rfl, zval_own _ _, hide (unhide S)⟩, below_set7 (unhide B) (Nat.le_refl _)⟩
  · have S := hide (show SetIs l zVal from .inl ⟨fun h => hz h.1, rfl⟩)
    go_enter Try.func5, Try.ntmps5
    iterate 20 (try (first | go_values | go_skip | go_guarded | go_step | go_upon | go_simp))
    rw [unhide HW]
    clear HW
    have d0 := ((unhide R)).at (o := 0) (v := .int .i64 0) rfl
    have f0 := ((unhide R)).froz 0
    have d1 := ((unhide R)).at (o := 1) (v := .int .i64 0) rfl
    have f1 := ((unhide R)).froz 1
    have d2 := ((unhide R)).at (o := 2) (v := .int .i64 0) rfl
    have f2 := ((unhide R)).froz 2
    have d3 := ((unhide R)).at (o := 3) (v := .string ⟨#[]⟩) rfl
    have f3 := ((unhide R)).froz 3
    have d4 := ((unhide R)).at (o := 4) (v := .string ⟨#[]⟩) rfl
    have f4 := ((unhide R)).froz 4
    have d5 := ((unhide R)).at (o := 5) (v := .slice none 0 0) rfl
    have f5 := ((unhide R)).froz 5
    have d6 := ((unhide R)).at (o := 6) (v := .slice none 0 0) rfl
    have f6 := ((unhide R)).froz 6
    go_wp2_with fail
    refine bodyPost_ret (v := VRet zVal (.slice none 0 0) (.slice none 0 0)) (by simp [results, Try.results5, go_sem, VRet, d0, d1, d2, d3, d4, d5, d6]) rfl ⟨⟨_, _, _, rfl, zval_own _ _, hide (unhide S)⟩, below_set7 (unhide B) (Nat.le_refl _)⟩
end Go.Proofs.Ytlnmhjihfolliaa.V
