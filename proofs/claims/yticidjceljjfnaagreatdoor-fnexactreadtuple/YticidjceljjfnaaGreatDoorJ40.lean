/- BSa, BSs, one behind the other. -/
import Derived.Test.YticidjceljjfnaaGreatDoorJ37
/- spec.ReadValue: texts that are too long, and atoms. -/
namespace Go.Proofs.YticidjceljjfnaaGreatDoor.V
open Go.RowKit
set_option maxRecDepth 20000

theorem row_set4 {w : World} {b : Nat} {v1 v2 : Value} {k : Int} (h : RowIs w b (zV k v1 v2) 35) (u1 u2 u3 u4 : Value) :
    RowIs ((((w.setCell ⟨b, 1, none⟩ u1).setCell ⟨b, 2, none⟩ u2).setCell ⟨b, 3, none⟩ u3).setCell ⟨b, 4, none⟩ u4) b #[.int .i64 k, u1, u2, u3, u4, v1, v2] 35 := by
  have h7 := (((h.set 1 u1).set 2 u2).set 3 u3).set 4 u4
  have e : (((((zV k v1 v2).setIfInBounds 1 u1).setIfInBounds 2 u2).setIfInBounds 3 u3).setIfInBounds 4 u4) = #[.int .i64 k, u1, u2, u3, u4, v1, v2] := by
    apply Array.toList_inj.1
    simp [zV]
  rw [e] at h7
  exact h7

set_option maxHeartbeats 4000000 in
theorem sReadValue_big (s : ByteArray) (w : World) (hz : 60000 < s.size) :
    Calls Tryz.prog 23 #[.string s] w fun e w' => VRdRet s.data.toList w.heap.size e w' ∧ Below w.heap.size w w' := by
  have zl : s.data.toList.length = s.size := by simp
  have ai := hide (v_no (l := s.data.toList) (fun v' a b e => by have := val_60000 a b; rw [e] at this; omega))
  have g6 : decide (60000 < (s.size : Int)) = true := by simp; omega
  go_enter Tryz.func23, Tryz.ntmps23
  go_wp2_with fail
  refine bodyPost_ret (v := .tuple #[VRet zVal (.slice none 0 0) (.slice none 0 0), .bool false]) (by simp [results, Tryz.results23, go_sem, VRet]) rfl ⟨⟨_, _, _, _, rfl, zval_own _ _, ai⟩, ?_⟩
  exact bAl (bAl (Below.refl _ _) _) _

set_option maxHeartbeats 4000000 in
theorem sReadValue_atom (s : ByteArray) (w : World) (hs : s.size ≤ 60000) (hc : s.size < 2 ∨ ∃ h : 0 < s.size, ¬ s[0] = 91 ∧ ¬ s[0] = 123) :
    Calls Tryz.prog 23 #[.string s] w fun e w' => VRdRet s.data.toList w.heap.size e w' ∧ Below w.heap.size w w' := by
  have zl : s.data.toList.length = s.size := by simp
  have hno := hide (show ∀ r : List UInt8, 1 ≤ r.length → ¬ s.data.toList = 91 :: r ∧ ¬ s.data.toList = 123 :: r from fun r hr => by
    have key : ∀ c : UInt8, s.data.toList = c :: r → c = 91 ∨ c = 123 → False := fun c e h => by
      rcases hc with h2 | ⟨h0, n1, n2⟩
      · rw [e] at zl; simp at zl; omega
      · have hcons := list_cons h0
        rw [e] at hcons
        injection hcons with e1
        rw [← e1] at n1 n2
        rcases h with h | h
        · exact n1 h
        · exact n2 h
    exact ⟨fun e => key 91 e (.inl rfl), fun e => key 123 e (.inr rfl)⟩)
  have g6 : decide (60000 < (s.size : Int)) = false := by simp; omega
  have q1 := hide (fun w => sReadAtom_any s w (by omega))
  have key : ∀ K : Prop, (s.size < 2 → K) → ((h : 0 < s.size) → ¬ s.size < 2 → ¬ s[0] = 91 ∧ ¬ s[0] = 123 → K) → K := fun K h1 h2 => by
    rcases hc with h | ⟨h0, n⟩
    · exact h1 h
    · by_cases h : s.size < 2
      · exact h1 h
      · exact h2 h0 h n
  go_enter Tryz.func23, Tryz.ntmps23
  refine key _ (fun h2 => ?_) (fun h0 h2 n => ?_)
  · have g2 : decide ((s.size : Int) < 2) = true := by simp; omega
    clear hc key
    go_wp2_with fail
    refine (unhide q1 _).mono ?_
    rintro e w1 ⟨⟨x, n, t, y, ok, rfl, ha⟩, hb1⟩
    have HR := hide (two_new w 1 hb1)
    have B1 := hide (two_below w 1 hb1)
    have lt1 : w.heap.size + 1 < w1.heap.size := (unhide HR).b.lt
    have n1 : ¬ w1.heap.size = w.heap.size := by omega
    have n2 : ¬ w1.heap.size = w.heap.size + 1 := by omega
    have ba := bAl (Below.refl w1.heap.size w1) (.cells #[.int .i64 x, .int .i64 n, .string t, .string y] 32)
    have HR2 := hide ((unhide HR).keep ba)
    have RA := hide (RowIs.new w1 #[.int .i64 x, .int .i64 n, .string t, .string y] 32)
    have B2 := hide (bTr (unhide B1) ba)
    clear hb1 q1 ba HR B1
    iterate 20 (try (first | go_values | go_skip | go_guarded | go_step | go_upon | go_simp))
    obtain ⟨W2, hW2⟩ : ∃ W2, W2 = w1.alloc (.cells #[.int .i64 x, .int .i64 n, .string t, .string y] 32) := ⟨_, rfl⟩
    rw [← hW2] at HR2 RA B2 ⊢
    clear hW2
    obtain ⟨A1, hA1⟩ : ∃ A1, A1 = w1.heap.size := ⟨_, rfl⟩
    rw [← hA1] at RA n1 n2 lt1 ⊢
    clear hA1 lt1
    have b1 := (unhide HR2).b.at (o := 1) (v := .int .i64 0) rfl
    have b2 := (unhide HR2).b.at (o := 2) (v := .int .i64 0) rfl
    have b3 := (unhide HR2).b.at (o := 3) (v := .string ⟨#[]⟩) rfl
    have b4 := (unhide HR2).b.at (o := 4) (v := .string ⟨#[]⟩) rfl
    have h1 := (unhide HR2).b.froz 1
    have h2 := (unhide HR2).b.froz 2
    have h3 := (unhide HR2).b.froz 3
    have h4 := (unhide HR2).b.froz 4
    have x0 := (unhide RA).at (o := 0) (v := .int .i64 x) rfl
    have x1 := (unhide RA).at (o := 1) (v := .int .i64 n) rfl
    have x2 := (unhide RA).at (o := 2) (v := .string t) rfl
    have x3 := (unhide RA).at (o := 3) (v := .string y) rfl
    iterate 14 (try (first | go_values | go_skip | go_guarded | go_step | go_upon | go_simp))
    obtain ⟨W3, hW3⟩ : ∃ W3, W3 = (((W2.setCell ⟨w.heap.size + 1, 1, none⟩ (.int .i64 x)).setCell ⟨w.heap.size + 1, 2, none⟩ (.int .i64 n)).setCell ⟨w.heap.size + 1, 3, none⟩ (.string t)).setCell ⟨w.heap.size + 1, 4, none⟩ (.string y) := ⟨_, rfl⟩
    have RB := hide (row_set4 (unhide HR2).b (.int .i64 x) (.int .i64 n) (.string t) (.string y))
    have RR := hide (((((unhide HR2).r.setOther (o' := 1) (.int .i64 x) (show w.heap.size ≠ w.heap.size + 1 by omega)).setOther (o' := 2) (.int .i64 n) (show w.heap.size ≠ w.heap.size + 1 by omega)).setOther (o' := 3) (.string t) (show w.heap.size ≠ w.heap.size + 1 by omega)).setOther (o' := 4) (.string y) (show w.heap.size ≠ w.heap.size + 1 by omega))
    have B3 := hide (below_set (o := 4) (v := .string y) (below_set (o := 3) (v := .string t) (below_set (o := 2) (v := .int .i64 n) (below_set (o := 1) (v := .int .i64 x) (unhide B2) (show w.heap.size ≤ w.heap.size + 1 by omega)) (show w.heap.size ≤ w.heap.size + 1 by omega)) (show w.heap.size ≤ w.heap.size + 1 by omega)) (show w.heap.size ≤ w.heap.size + 1 by omega))
    rw [← hW3] at RB RR B3 ⊢
    clear hW3 b1 b2 b3 b4 h1 h2 h3 h4 x0 x1 x2 x3 RA HR2 B2 n1 n2
    have d0 := ((unhide RR)).at (o := 0) (v := .int .i64 0) rfl
    have d1 := ((unhide RR)).at (o := 1) (v := .int .i64 0) rfl
    have d2 := ((unhide RR)).at (o := 2) (v := .int .i64 0) rfl
    have d3 := ((unhide RR)).at (o := 3) (v := .string ⟨#[]⟩) rfl
    have d4 := ((unhide RR)).at (o := 4) (v := .string ⟨#[]⟩) rfl
    have d5 := ((unhide RR)).at (o := 5) (v := .slice none 0 0) rfl
    have d6 := ((unhide RR)).at (o := 6) (v := .slice none 0 0) rfl
    have f0 := ((unhide RR)).froz 0
    have f1 := ((unhide RR)).froz 1
    have f2 := ((unhide RR)).froz 2
    have f3 := ((unhide RR)).froz 3
    have f4 := ((unhide RR)).froz 4
    have f5 := ((unhide RR)).froz 5
    have f6 := ((unhide RR)).froz 6
    cases ok with
    | true =>
      have ai := hide (vis_atom ha (unhide hno))
      clear ha
      have b0 := ((unhide RB)).at (o := 0) (v := .int .i64 1) rfl
      have b1 := ((unhide RB)).at (o := 1) (v := .int .i64 x) rfl
      have b2 := ((unhide RB)).at (o := 2) (v := .int .i64 n) rfl
      have b3 := ((unhide RB)).at (o := 3) (v := .string t) rfl
      have b4 := ((unhide RB)).at (o := 4) (v := .string y) rfl
      have b5 := ((unhide RB)).at (o := 5) (v := .slice none 0 0) rfl
      have b6 := ((unhide RB)).at (o := 6) (v := .slice none 0 0) rfl
      go_wp2_with fail
      refine bodyPost_ret (v := .tuple #[VRet ⟨1, ⟨x, n, t, y⟩, [], []⟩ (.slice none 0 0) (.slice none 0 0), .bool true]) (by simp [results, Tryz.results23, go_sem, VRet, d0, d1, d2, d3, d4, d5, d6]) rfl ⟨⟨_, _, _, _, rfl, VOwn.nil _ _ _ _, ai⟩, below_set7 (unhide B3) (Nat.le_refl _)⟩
    | false =>
      have ai := hide (vno_atom ha (unhide hno))
      clear ha
      go_wp2_with fail
      refine bodyPost_ret (v := .tuple #[VRet zVal (.slice none 0 0) (.slice none 0 0), .bool false]) (by simp [results, Tryz.results23, go_sem, VRet, d0, d1, d2, d3, d4, d5, d6]) rfl ⟨⟨_, _, _, _, rfl, zval_own _ _, ai⟩, below_set7 (unhide B3) (Nat.le_refl _)⟩
  · have g2 : decide ((s.size : Int) < 2) = false := by simp; omega
    obtain ⟨c, hcc⟩ : ∃ c, s[0] = c := ⟨_, rfl⟩
    rw [hcc] at n
    obtain ⟨n91, n123⟩ := n
    have e91 : ((c.toNat : Int) == 91) = decide (c = 91) := u8_is (n := 91) (by decide)
    have e123 : ((c.toNat : Int) == 123) = decide (c = 123) := u8_is (n := 123) (by decide)
    have m91 : ¬ (c.toNat : Int) = 91 := (fun e => n91 (UInt8.toNat_inj.1 (show c.toNat = 91 by omega)))
    have m123 : ¬ (c.toNat : Int) = 123 := (fun e => n123 (UInt8.toNat_inj.1 (show c.toNat = 123 by omega)))
    rw [decide_eq_false n91] at e91
    rw [decide_eq_false n123] at e123
    have k91 : ((c.toNat : Int) != 91) = true := by simpa using m91
    have k123 : ((c.toNat : Int) != 123) = true := by simpa using m123
    clear hc key n91 n123
    go_wp2_with fail
    refine (unhide q1 _).mono ?_
    rintro e w1 ⟨⟨x, n, t, y, ok, rfl, ha⟩, hb1⟩
    have HR := hide (two_new w 1 hb1)
    have B1 := hide (two_below w 1 hb1)
    have lt1 : w.heap.size + 1 < w1.heap.size := (unhide HR).b.lt
    have n1 : ¬ w1.heap.size = w.heap.size := by omega
    have n2 : ¬ w1.heap.size = w.heap.size + 1 := by omega
    have ba := bAl (Below.refl w1.heap.size w1) (.cells #[.int .i64 x, .int .i64 n, .string t, .string y] 32)
    have HR2 := hide ((unhide HR).keep ba)
    have RA := hide (RowIs.new w1 #[.int .i64 x, .int .i64 n, .string t, .string y] 32)
    have B2 := hide (bTr (unhide B1) ba)
    clear hb1 q1 ba HR B1
    iterate 20 (try (first | go_values | go_skip | go_guarded | go_step | go_upon | go_simp))
    obtain ⟨W2, hW2⟩ : ∃ W2, W2 = w1.alloc (.cells #[.int .i64 x, .int .i64 n, .string t, .string y] 32) := ⟨_, rfl⟩
    rw [← hW2] at HR2 RA B2 ⊢
    clear hW2
    obtain ⟨A1, hA1⟩ : ∃ A1, A1 = w1.heap.size := ⟨_, rfl⟩
    rw [← hA1] at RA n1 n2 lt1 ⊢
    clear hA1 lt1
    have b1 := (unhide HR2).b.at (o := 1) (v := .int .i64 0) rfl
    have b2 := (unhide HR2).b.at (o := 2) (v := .int .i64 0) rfl
    have b3 := (unhide HR2).b.at (o := 3) (v := .string ⟨#[]⟩) rfl
    have b4 := (unhide HR2).b.at (o := 4) (v := .string ⟨#[]⟩) rfl
    have h1 := (unhide HR2).b.froz 1
    have h2 := (unhide HR2).b.froz 2
    have h3 := (unhide HR2).b.froz 3
    have h4 := (unhide HR2).b.froz 4
    have x0 := (unhide RA).at (o := 0) (v := .int .i64 x) rfl
    have x1 := (unhide RA).at (o := 1) (v := .int .i64 n) rfl
    have x2 := (unhide RA).at (o := 2) (v := .string t) rfl
    have x3 := (unhide RA).at (o := 3) (v := .string y) rfl
    iterate 14 (try (first | go_values | go_skip | go_guarded | go_step | go_upon | go_simp))
    obtain ⟨W3, hW3⟩ : ∃ W3, W3 = (((W2.setCell ⟨w.heap.size + 1, 1, none⟩ (.int .i64 x)).setCell ⟨w.heap.size + 1, 2, none⟩ (.int .i64 n)).setCell ⟨w.heap.size + 1, 3, none⟩ (.string t)).setCell ⟨w.heap.size + 1, 4, none⟩ (.string y) := ⟨_, rfl⟩
    have RB := hide (row_set4 (unhide HR2).b (.int .i64 x) (.int .i64 n) (.string t) (.string y))
    have RR := hide (((((unhide HR2).r.setOther (o' := 1) (.int .i64 x) (show w.heap.size ≠ w.heap.size + 1 by omega)).setOther (o' := 2) (.int .i64 n) (show w.heap.size ≠ w.heap.size + 1 by omega)).setOther (o' := 3) (.string t) (show w.heap.size ≠ w.heap.size + 1 by omega)).setOther (o' := 4) (.string y) (show w.heap.size ≠ w.heap.size + 1 by omega))
    have B3 := hide (below_set (o := 4) (v := .string y) (below_set (o := 3) (v := .string t) (below_set (o := 2) (v := .int .i64 n) (below_set (o := 1) (v := .int .i64 x) (unhide B2) (show w.heap.size ≤ w.heap.size + 1 by omega)) (show w.heap.size ≤ w.heap.size + 1 by omega)) (show w.heap.size ≤ w.heap.size + 1 by omega)) (show w.heap.size ≤ w.heap.size + 1 by omega))
    rw [← hW3] at RB RR B3 ⊢
    clear hW3 b1 b2 b3 b4 h1 h2 h3 h4 x0 x1 x2 x3 RA HR2 B2 n1 n2
    have d0 := ((unhide RR)).at (o := 0) (v := .int .i64 0) rfl
    have d1 := ((unhide RR)).at (o := 1) (v := .int .i64 0) rfl
    have d2 := ((unhide RR)).at (o := 2) (v := .int .i64 0) rfl
    have d3 := ((unhide RR)).at (o := 3) (v := .string ⟨#[]⟩) rfl
    have d4 := ((unhide RR)).at (o := 4) (v := .string ⟨#[]⟩) rfl
    have d5 := ((unhide RR)).at (o := 5) (v := .slice none 0 0) rfl
    have d6 := ((unhide RR)).at (o := 6) (v := .slice none 0 0) rfl
    have f0 := ((unhide RR)).froz 0
    have f1 := ((unhide RR)).froz 1
    have f2 := ((unhide RR)).froz 2
    have f3 := ((unhide RR)).froz 3
    have f4 := ((unhide RR)).froz 4
    have f5 := ((unhide RR)).froz 5
    have f6 := ((unhide RR)).froz 6
    cases ok with
    | true =>
      have ai := hide (vis_atom ha (unhide hno))
      clear ha
      have b0 := ((unhide RB)).at (o := 0) (v := .int .i64 1) rfl
      have b1 := ((unhide RB)).at (o := 1) (v := .int .i64 x) rfl
      have b2 := ((unhide RB)).at (o := 2) (v := .int .i64 n) rfl
      have b3 := ((unhide RB)).at (o := 3) (v := .string t) rfl
      have b4 := ((unhide RB)).at (o := 4) (v := .string y) rfl
      have b5 := ((unhide RB)).at (o := 5) (v := .slice none 0 0) rfl
      have b6 := ((unhide RB)).at (o := 6) (v := .slice none 0 0) rfl
      go_wp2_with fail
      refine bodyPost_ret (v := .tuple #[VRet ⟨1, ⟨x, n, t, y⟩, [], []⟩ (.slice none 0 0) (.slice none 0 0), .bool true]) (by simp [results, Tryz.results23, go_sem, VRet, d0, d1, d2, d3, d4, d5, d6]) rfl ⟨⟨_, _, _, _, rfl, VOwn.nil _ _ _ _, ai⟩, below_set7 (unhide B3) (Nat.le_refl _)⟩
    | false =>
      have ai := hide (vno_atom ha (unhide hno))
      clear ha
      go_wp2_with fail
      refine bodyPost_ret (v := .tuple #[VRet zVal (.slice none 0 0) (.slice none 0 0), .bool false]) (by simp [results, Tryz.results23, go_sem, VRet, d0, d1, d2, d3, d4, d5, d6]) rfl ⟨⟨_, _, _, _, rfl, zval_own _ _, ai⟩, below_set7 (unhide B3) (Nat.le_refl _)⟩
end Go.Proofs.YticidjceljjfnaaGreatDoor.V
/- spec.ReadValue: sets. -/
namespace Go.Proofs.YticidjceljjfnaaGreatDoor.V
open Go.RowKit
set_option maxRecDepth 20000

theorem mid_ext (s : ByteArray) : (s.extract 1 (s.size - 1)).data.toList = midL s.data.toList := by
  rw [mid_bytes]
  unfold midL
  show (s.data.toList.drop 1).take (s.size - 1 - 1) = _
  have : s.data.toList.length = s.size := by simp
  rw [this]; congr 1

set_option maxHeartbeats 4000000 in
theorem sReadValue_set (s : ByteArray) (w : World) (hs : s.size ≤ 60000) (h2 : 2 ≤ s.size) (hc : s[0] = 91) :
    Calls Tryz.prog 23 #[.string s] w fun e w' => VRdRet s.data.toList w.heap.size e w' ∧ Below w.heap.size w w' := by
  have zl : s.data.toList.length = s.size := by simp
  have HX := hide (show ∃ r, s.data.toList = 91 :: r from ⟨_, by have := list_cons (s := s) (by omega); rw [hc] at this; exact this⟩)
  have g6 : decide (60000 < (s.size : Int)) = false := by simp; omega
  have g2 : decide ((s.size : Int) < 2) = false := by simp; omega
  have k91 : (((91 : UInt8).toNat : Int) != 91) = false := by decide
  have zX : (s.extract 1 (s.size - 1)).size ≤ 1048576 := by rw [ByteArray.size_extract]; omega
  have q1 := hide (fun w => l1Parts_any (s.extract 1 (s.size - 1)) w zX)
  rw [mid_ext s] at q1
  obtain ⟨i0, hi, hz0, hz1, hz2⟩ := info_parts info_atom
  have ml : (midL s.data.toList).length ≤ s.size := by unfold midL; rw [List.length_take, List.length_drop]; omega
  go_enter Tryz.func23, Tryz.ntmps23
  go_wp2_with fail
  refine (unhide q1 _).mono ?_
  rintro e w1 ⟨⟨v, R, rfl, hown, hit⟩, hb1⟩
  have HR := hide (two_new w 2 hb1)
  have B1 := hide (two_below w 2 hb1)
  have hbs := hide hown
  obtain ⟨av, cv, ev⟩ := own_sl hown
  subst ev
  clear hown hb1 q1
  have hRl : R.length ≤ 60001 := by have := (unhide hit).len; omega
  have lt1 : w.heap.size + 1 < w1.heap.size := (unhide HR).b.lt
  go_wp2_with fail
  go_loopw [53] (fun i w' => ∃ (k : Nat) (I : List AtomT) (v1 : Value), k ≤ R.length ∧ i = .int .i64 k ∧ I.length = k ∧ w1.heap.size ≤ w'.heap.size ∧ Hid (Two w w' 2 v1 (.slice none 0 0)) ∧ Hid (w'.ownsRow w1.heap.size 32 4 v1 k (atomsV I)) ∧ Hid (Below w.heap.size w w') ∧ Hid (w'.ownsRow (w.heap.size + 1 + 1) 9 1 (.slice av R.length cv) R.length (strsV R)) ∧ Hid (RdOf R I)) (fun i _ => R.length - (intOf i).toNat)
  case atStart => exact ⟨0, [], _, by omega, rfl, rfl, Nat.le_refl _, HR, hide (World.ownsRow_nil _ _ _ _), B1, hide (by simpa using unhide hbs), hide (RdOf.nil R)⟩
  case round =>
    obtain ⟨k, I, v1, hk, rfl, hI, hw1, hR, hown, hb, hrow, hrd⟩ := hrel
    by_cases hlt : k < R.length
    · rcases (unhide hrow).2 with ⟨_, e2⟩ | ⟨g, cap, cur, hv, hgb, hgc, hn1, hn2, hcs, htk⟩
      · omega
      obtain ⟨p, hp⟩ : ∃ p, R[k] = p := ⟨_, rfl⟩
      have ck : wr.cell? ⟨g, k, none⟩ = some (.string ⟨p.toArray⟩) := by rw [← hp]; exact own_cell hgc htk k hlt
      injection hv with hv1 hv2 hv3
      subst hv1 hv3
      have zp : p.length ≤ s.size := by
        have := (unhide hit).each p (by rw [← hp]; exact List.getElem_mem _)
        omega
      have q2 := hide (fun w => sReadAtom_any ⟨p.toArray⟩ w (by rw [sz_arr]; omega))
      have stp := hide (fun (a : AtomT) (ok : Bool) (ha : AtmIs p a.x a.n a.t a.y ok) => (unhide hrd).step (by omega) (by simp only [hI]; exact hp) ha)
      have bad := hide (fun (x n : Int) (t y : ByteArray) (ha : AtmIs p x n t y false) => set_bad (unhide hit) hlt (unhide HX) (by rw [hp]; exact ha))
      have ck0 := (unhide hR).b.at (o := 0) (v := .int .i64 2) rfl
      clear hgc htk hcs hrd hp
      go_wp2_with fail
      refine (unhide q2 _).mono ?_
      rintro e w2 ⟨⟨x, n, t, y, ok, rfl, ha⟩, hb2⟩
      have l1 := hide (own_keepT (unhide hown) hb2).lt
      have ba := bAl (Below.refl w2.heap.size w2) (.cells #[.int .i64 x, .int .i64 n, .string t, .string y] 32)
      have R3 := hide (((unhide hR).keep hb2).keep ba)
      have O3 := hide ((own_keepT (unhide hown) hb2).alloc (.cells #[.int .i64 x, .int .i64 n, .string t, .string y] 32))
      have S3 := hide ((own_keepT (unhide hrow) hb2).alloc (.cells #[.int .i64 x, .int .i64 n, .string t, .string y] 32))
      have B3 := hide (bTr (bTr (unhide hb) hb2) ba)
      have RA := hide (RowIs.new w2 #[.int .i64 x, .int .i64 n, .string t, .string y] 32)
      have b3 : wr.heap.size ≤ w2.heap.size := hb2.size
      clear hb2 q2 ck ba hR hown hrow hb ck0
      iterate 20 (try (first | go_values | go_skip | go_guarded | go_step | go_upon | go_simp))
      obtain ⟨W2, hW2⟩ : ∃ W2, W2 = w2.alloc (.cells #[.int .i64 x, .int .i64 n, .string t, .string y] 32) := ⟨_, rfl⟩
      have sz2 : w2.heap.size + 1 = W2.heap.size := by rw [hW2]; simp
      rw [← hW2] at R3 O3 S3 B3 RA ⊢
      clear hW2
      cases ok with
      | false =>
        have ai := hide (unhide bad _ _ _ _ ha)
        clear ha bad stp
        have d0 := ((unhide R3).r).at (o := 0) (v := .int .i64 0) rfl
        have d1 := ((unhide R3).r).at (o := 1) (v := .int .i64 0) rfl
        have d2 := ((unhide R3).r).at (o := 2) (v := .int .i64 0) rfl
        have d3 := ((unhide R3).r).at (o := 3) (v := .string ⟨#[]⟩) rfl
        have d4 := ((unhide R3).r).at (o := 4) (v := .string ⟨#[]⟩) rfl
        have d5 := ((unhide R3).r).at (o := 5) (v := .slice none 0 0) rfl
        have d6 := ((unhide R3).r).at (o := 6) (v := .slice none 0 0) rfl
        have f0 := ((unhide R3).r).froz 0
        have f1 := ((unhide R3).r).froz 1
        have f2 := ((unhide R3).r).froz 2
        have f3 := ((unhide R3).r).froz 3
        have f4 := ((unhide R3).r).froz 4
        have f5 := ((unhide R3).r).froz 5
        have f6 := ((unhide R3).r).froz 6
        go_wp2_with fail
        refine bodyPost_ret (v := .tuple #[VRet zVal (.slice none 0 0) (.slice none 0 0), .bool false]) (by simp [results, Tryz.results23, go_sem, VRet, d0, d1, d2, d3, d4, d5, d6]) rfl ⟨⟨_, _, _, _, rfl, zval_own _ _, ai⟩, below_set7 (unhide B3) (Nat.le_refl _)⟩
      | true =>
        have rd4 := hide (unhide stp ⟨x, n, t, y⟩ true ha)
        obtain ⟨a1, c1, e1⟩ := own_sl (unhide O3)
        subst e1
        have c5 := (unhide R3).b.at (o := 5) (v := .slice a1 k c1) rfl
        have f5 := (unhide R3).b.froz 5
        have x0 := (unhide RA).at (o := 0) (v := .int .i64 x) rfl
        have x1 := (unhide RA).at (o := 1) (v := .int .i64 n) rfl
        have x2 := (unhide RA).at (o := 2) (v := .string t) rfl
        have x3 := (unhide RA).at (o := 3) (v := .string y) rfl
        clear ha bad stp
        have t1 := hide ((unhide O3).alloc (.cells #[.int .i64 x, .int .i64 n, .string t, .string y] 32))
        have t2 := hide (cell_four_new W2 (cellsA ⟨x, n, t, y⟩) 32)
        have T3 := hide (show ∀ u ∈ cellsA ⟨x, n, t, y⟩, u.oneCell' = true from fun u hu => by simp [cellsA] at hu; rcases hu with rfl | rfl | rfl | rfl <;> rfl)
        have T4 := hide (show w1.heap.size ≤ (W2.alloc (.cells #[.int .i64 x, .int .i64 n, .string t, .string y] 32)).heap.size by simp; omega)
        have t5 : (k + 1) * 48 ≤ 140737488355328 := by omega
        go_wp2_with (at_builtin; refine wpList_append_own_at _ rfl _ _ 33 rfl w1.heap.size 32 i0 _ 4 48 Tryz.underlying33 hi hz0 hz1 hz2 rfl (by decide) _ _ _ rfl (unhide t1) ⟨_, 0, none⟩ 1 1 (cellsA ⟨x, n, t, y⟩) rfl rfl (unhide t2) (unhide T3) (by unfold maxLen; omega) t5 (unhide T4) ?_; intro v3 w3 hown3 hgrow3 _ hat3; obtain ⟨av3, cv3, ev3⟩ := own_sl hown3; subst ev3; have ne1 : ∀ g, (Value.slice a1 k c1).ownBlock = some g → w.heap.size + 1 < g := (fun g e => by have := ((unhide O3).lt g e).1; omega); have R4 := hide ((((unhide R3).keep (bAl (Below.refl _ _) (.cells #[.int .i64 x, .int .i64 n, .string t, .string y] 32))).grown hgrow3 ne1)); have d5 := (unhide R4).b.at (o := 5) (v := .slice a1 k c1) rfl; have h5 := (unhide R4).b.froz 5)
        have gl : g < w1.heap.size := ((unhide hbs).lt g rfl).2
        have sz3 : W2.heap.size ≤ w3.heap.size := by have := hgrow3.size; simp at this; omega
        refine ⟨⟨k + 1, I ++ [⟨x, n, t, y⟩], _, by omega, by simp, by simp [hI], by simp [World.setCell]; omega, hide ((unhide R4).set1 _), hide ?_, hide ?_, hide ?_, rd4⟩, by simp [intOf]; omega⟩
        · rw [atomsV_snoc]
          exact own_set hown3 (fun g' e => by have := (hown3.lt g' e).1; omega)
        · exact below_set ((bAl (unhide B3) _).grown hgrow3 (by have := (unhide B3).size; simp; omega) (fun j hj => by have := ne1 j hj; omega)) (by omega)
        · refine own_set (((unhide S3).alloc _).kept hgrow3 (.inr (fun e => ?_))) (fun g' e => ?_)
          · have := ((unhide O3).lt g e.symm).1
            omega
          · have := ((unhide S3).lt g' e).1
            omega
    · have ek : k = R.length := by omega
      have gu := hide (set_guess (unhide hit) (unhide hrd) (by omega) (unhide HX))
      obtain ⟨T, hcall, hT⟩ := vtext ⟨2, zA, I, []⟩ (unhide gu).ok
      obtain ⟨a5, c5, e5⟩ := own_sl (unhide hown)
      subst e5
      have q5 := hide (hcall a5 none k c5 0 0 wr (sla_own (unhide hown)) ⟨rfl, .inl rfl⟩)
      have ve := hide (vis_end (s := s) (by omega) (unhide gu) hT)
      clear hcall hT hrd ek gu
      have OW := hide (show VOwn wr w1.heap.size ⟨2, zA, I, []⟩ (.slice a5 k c5) (.slice none 0 0) from ⟨by rw [show (⟨2, zA, I, []⟩ : ValT).items.length = k from hI]; exact unhide hown, World.ownsRow_nil _ _ _ _, fun g _ h => by cases h⟩)
      have j0 := ((unhide hR).b).at (o := 0) (v := .int .i64 2) rfl
      have j1 := ((unhide hR).b).at (o := 1) (v := .int .i64 0) rfl
      have j2 := ((unhide hR).b).at (o := 2) (v := .int .i64 0) rfl
      have j3 := ((unhide hR).b).at (o := 3) (v := .string ⟨#[]⟩) rfl
      have j4 := ((unhide hR).b).at (o := 4) (v := .string ⟨#[]⟩) rfl
      have j5 := ((unhide hR).b).at (o := 5) (v := .slice a5 k c5) rfl
      have j6 := ((unhide hR).b).at (o := 6) (v := .slice none 0 0) rfl
      go_wp2_with fail
      refine (unhide q5).mono ?_
      rintro e w5 ⟨rfl, hb5⟩
      replace OW := hide ((unhide OW).keep hb5)
      have R5 := hide ((unhide hR).keep hb5)
      have B5 := hide (bTr (unhide hb) hb5)
      clear hb5 q5 j0 j1 j2 j3 j4 j5 j6 hR hb hown
      by_cases hx : T = s
      · have ai := hide ((unhide ve).1 hx)
        have hx2 : (T.toList == s.toList) = true := by rw [hx]; simp
        clear hx ve
        have d0 := ((unhide R5).r).at (o := 0) (v := .int .i64 0) rfl
        have d1 := ((unhide R5).r).at (o := 1) (v := .int .i64 0) rfl
        have d2 := ((unhide R5).r).at (o := 2) (v := .int .i64 0) rfl
        have d3 := ((unhide R5).r).at (o := 3) (v := .string ⟨#[]⟩) rfl
        have d4 := ((unhide R5).r).at (o := 4) (v := .string ⟨#[]⟩) rfl
        have d5 := ((unhide R5).r).at (o := 5) (v := .slice none 0 0) rfl
        have d6 := ((unhide R5).r).at (o := 6) (v := .slice none 0 0) rfl
        have f0 := ((unhide R5).r).froz 0
        have f1 := ((unhide R5).r).froz 1
        have f2 := ((unhide R5).r).froz 2
        have f3 := ((unhide R5).r).froz 3
        have f4 := ((unhide R5).r).froz 4
        have f5 := ((unhide R5).r).froz 5
        have f6 := ((unhide R5).r).froz 6
        have j0 := ((unhide R5).b).at (o := 0) (v := .int .i64 2) rfl
        have j1 := ((unhide R5).b).at (o := 1) (v := .int .i64 0) rfl
        have j2 := ((unhide R5).b).at (o := 2) (v := .int .i64 0) rfl
        have j3 := ((unhide R5).b).at (o := 3) (v := .string ⟨#[]⟩) rfl
        have j4 := ((unhide R5).b).at (o := 4) (v := .string ⟨#[]⟩) rfl
        have j5 := ((unhide R5).b).at (o := 5) (v := .slice a5 k c5) rfl
        have j6 := ((unhide R5).b).at (o := 6) (v := .slice none 0 0) rfl
        go_wp2_with fail
        refine bodyPost_ret (v := .tuple #[VRet ⟨2, zA, I, []⟩ (.slice a5 k c5) (.slice none 0 0), .bool true]) (by simp [results, Tryz.results23, go_sem, VRet, d0, d1, d2, d3, d4, d5, d6]) rfl ⟨⟨_, _, _, _, rfl, (unhide OW).set7 (by omega) (by omega), ai⟩, below_set7 (unhide B5) (Nat.le_refl _)⟩
      · have ai := hide ((unhide ve).2 hx)
        have hx2 : (T.toList == s.toList) = false := by simpa using str_neq hx
        clear hx ve
        have d0 := ((unhide R5).r).at (o := 0) (v := .int .i64 0) rfl
        have d1 := ((unhide R5).r).at (o := 1) (v := .int .i64 0) rfl
        have d2 := ((unhide R5).r).at (o := 2) (v := .int .i64 0) rfl
        have d3 := ((unhide R5).r).at (o := 3) (v := .string ⟨#[]⟩) rfl
        have d4 := ((unhide R5).r).at (o := 4) (v := .string ⟨#[]⟩) rfl
        have d5 := ((unhide R5).r).at (o := 5) (v := .slice none 0 0) rfl
        have d6 := ((unhide R5).r).at (o := 6) (v := .slice none 0 0) rfl
        have f0 := ((unhide R5).r).froz 0
        have f1 := ((unhide R5).r).froz 1
        have f2 := ((unhide R5).r).froz 2
        have f3 := ((unhide R5).r).froz 3
        have f4 := ((unhide R5).r).froz 4
        have f5 := ((unhide R5).r).froz 5
        have f6 := ((unhide R5).r).froz 6
        go_wp2_with fail
        refine bodyPost_ret (v := .tuple #[VRet zVal (.slice none 0 0) (.slice none 0 0), .bool false]) (by simp [results, Tryz.results23, go_sem, VRet, d0, d1, d2, d3, d4, d5, d6]) rfl ⟨⟨_, _, _, _, rfl, zval_own _ _, ai⟩, below_set7 (unhide B5) (Nat.le_refl _)⟩
end Go.Proofs.YticidjceljjfnaaGreatDoor.V
