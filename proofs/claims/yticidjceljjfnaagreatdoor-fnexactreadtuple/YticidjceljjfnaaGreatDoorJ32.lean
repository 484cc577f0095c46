/- BIt, BGi, one behind the other. -/
import Derived.Test.YticidjceljjfnaaGreatDoorJ31
/- impl.itemLength. -/
namespace Go.Proofs.YticidjceljjfnaaGreatDoor.V
open Go.RowKit
set_option maxRecDepth 20000

theorem drop_at {l : List UInt8} {k : Nat} (hk : k < l.length) : l.drop k = l[k] :: l.drop (k + 1) := List.drop_eq_getElem_cons hk
theorem sc_esc {l : List UInt8} {k : Nat} (hk : k < l.length) (h : l[k] = 92) : min k l.length + cutAt true (l.drop k) = min (k + 2) l.length + cutAt true (l.drop (k + 2)) := by
  rw [drop_at hk, h]
  by_cases h2 : k + 1 < l.length
  · rw [drop_at h2, cut_esc, show k + 1 + 1 = k + 2 from rfl]; omega
  · rw [List.drop_eq_nil_of_le (by omega : l.length ≤ k + 1), List.drop_eq_nil_of_le (by omega : l.length ≤ k + 2), cut_nil]
    show _ + 1 = _
    omega
theorem sc_quo {l : List UInt8} {k : Nat} (q : Bool) (hk : k < l.length) (h : l[k] = 34) : min k l.length + cutAt q (l.drop k) = min (k + 1) l.length + cutAt (!q) (l.drop (k + 1)) := by
  rw [drop_at hk, h, cut_quo]; omega
theorem sc_com {l : List UInt8} {k : Nat} (hk : k < l.length) (h : l[k] = 44) : min k l.length + cutAt false (l.drop k) = k := by
  rw [drop_at hk, h, cut_com]; omega
theorem sc_else {l : List UInt8} {k : Nat} {q : Bool} (hk : k < l.length) (h1 : ¬ (l[k] = 92 ∧ q = true)) (h2 : ¬ l[k] = 34) (h3 : ¬ (l[k] = 44 ∧ q = false)) : min k l.length + cutAt q (l.drop k) = min (k + 1) l.length + cutAt q (l.drop (k + 1)) := by
  rw [drop_at hk, cut_else _ h1 h2 h3]; omega
theorem sc_end {l : List UInt8} {k : Nat} {q : Bool} (hk : l.length ≤ k) : min k l.length + cutAt q (l.drop k) = l.length := by
  rw [List.drop_eq_nil_of_le hk, cut_nil]; omega

set_option maxHeartbeats 1000000 in
theorem itemLength_any (s : ByteArray) (w : World) (hs : s.size ≤ 1048576) :
    Calls Tryz.prog 145 #[.string s] w fun e w' => e = .returned (.int .i64 (cutAt false s.data.toList : Nat)) ∧ w = w' := by
  have zs : s.data.toList.length = s.size := by simp
  obtain ⟨C, hC⟩ : ∃ C, cutAt false s.data.toList = C := ⟨_, rfl⟩
  have st0 := hide (show min 0 s.data.toList.length + cutAt false (s.data.toList.drop 0) = C by rw [List.drop_zero, hC]; omega)
  rw [hC]
  clear hC
  go_enter Tryz.func145, Tryz.ntmps145
  go_wp2_with fail
  go_loopw [3, 4] (fun q i w' => ∃ (k : Nat) (b : Bool), k ≤ s.size + 1 ∧ q = .bool b ∧ i = .int .i64 k ∧ w' = w ∧ Hid (min k s.data.toList.length + cutAt b (s.data.toList.drop k) = C)) (fun _ i _ => s.size + 1 - (intOf i).toNat)
  case atStart => exact ⟨0, false, by omega, rfl, rfl, rfl, st0⟩
  case round =>
    obtain ⟨k, b, hk, rfl, rfl, rfl, st⟩ := hrel
    by_cases hlt : k < s.size
    · obtain ⟨c, hc⟩ : ∃ c, s[k] = c := ⟨_, rfl⟩
      have lc : s.data.toList[k]'(by omega) = c := by rw [← hc]; rfl
      have e92 : ((c.toNat : Int) == 92) = decide (c = 92) := u8_is (n := 92) (by decide)
      have e34 : ((c.toNat : Int) == 34) = decide (c = 34) := u8_is (n := 34) (by decide)
      have e44 : ((c.toNat : Int) == 44) = decide (c = 44) := u8_is (n := 44) (by decide)
      by_cases p92 : c = 92 ∧ b = true
      · obtain ⟨p, rfl⟩ := p92
        have s2 := hide ((sc_esc (by omega) (by rw [lc, p])).symm.trans (unhide st))
        rw [decide_eq_true p] at e92
        clear st lc p e34 e44
        go_wp2_with fail
        exact ⟨⟨k + 2, true, by omega, rfl, by go_num, trivial, s2⟩, by simp [intOf]; omega⟩
      by_cases p34 : c = 34
      · have s2 := hide ((sc_quo b (by omega) (by rw [lc, p34])).symm.trans (unhide st))
        rw [decide_eq_true p34] at e34
        rw [decide_eq_false (by rw [p34]; decide)] at e92
        clear st lc p34 e44 p92
        cases b
        all_goals
          go_wp2_with fail
          exact ⟨⟨k + 1, _, by omega, rfl, by simp, trivial, s2⟩, by simp [intOf]; omega⟩
      by_cases p44 : c = 44 ∧ b = false
      · obtain ⟨p, rfl⟩ := p44
        have ck : k = C := (sc_com (by omega) (by rw [lc, p])).symm.trans (unhide st)
        rw [decide_eq_true p] at e44
        rw [decide_eq_false p34] at e34
        clear st lc p34 p92 st0
        subst ck
        go_wp2_with fail
        go_ret
        first | exact ⟨rfl, rfl⟩ | exact ⟨rfl, trivial⟩ | exact ⟨by simp [ck], rfl⟩ | exact ⟨by simp [ck], trivial⟩
      · have s2 := hide ((sc_else (q := b) (by omega) (by rw [lc]; exact p92) (by rw [lc]; exact p34) (by rw [lc]; exact p44)).symm.trans (unhide st))
        rw [decide_eq_false p34] at e34
        clear st lc p34
        cases b
        · have p : ¬ c = 44 := fun h => p44 ⟨h, rfl⟩
          rw [decide_eq_false p] at e44
          clear p92 p44
          go_wp2_with fail
          exact ⟨⟨k + 1, _, by omega, rfl, by simp, trivial, s2⟩, by simp [intOf]; omega⟩
        · have p : ¬ c = 92 := fun h => p92 ⟨h, rfl⟩
          rw [decide_eq_false p] at e92
          clear p92 p44
          go_wp2_with fail
          exact ⟨⟨k + 1, _, by omega, rfl, by simp, trivial, s2⟩, by simp [intOf]; omega⟩
    · have ec : s.size = C := by rw [← zs]; exact (sc_end (q := b) (by omega)).symm.trans (unhide st)
      go_wp2_with fail
      go_ret
      first | exact ⟨rfl, rfl⟩ | exact ⟨rfl, trivial⟩
end Go.Proofs.YticidjceljjfnaaGreatDoor.V
/- impl.guessItems. -/
namespace Go.Proofs.YticidjceljjfnaaGreatDoor.V
open Go.RowKit
set_option maxRecDepth 20000

/-- What stands between the first byte and the last. -/
def midL (l : List UInt8) : List UInt8 := (l.drop 1).take (l.length - 2)
structure ItemsAre (l : List UInt8) (R : List (List UInt8)) : Prop where
  len : R.length ≤ 51
  each : ∀ p ∈ R, p.length ≤ l.length
  all : ∀ L, Fits (midL l) L → R = L
  nil : midL l = [] → R = []
/-- On the way. -/
structure ItemsTo (l : List UInt8) (R : List (List UInt8)) (X : List UInt8) : Prop where
  each : ∀ p ∈ R, p.length ≤ l.length
  all : ∀ L, Fits (midL l) L → R.length ≤ L.length ∧ R = L.take R.length ∧ X = Lib.join (L.drop R.length) [44]
  nil : midL l = [] → R = [] ∧ X = []
theorem ItemsTo.start (l : List UInt8) : ItemsTo l [] (midL l) := ⟨by simp, fun L h => ⟨by simp, by simp, by simpa using h.is.symm⟩, fun h => ⟨rfl, h⟩⟩
theorem ItemsTo.step {l : List UInt8} {R : List (List UInt8)} {X : List UInt8} (h : ItemsTo l R X) (hX : X ≠ []) (hl : X.length ≤ l.length) : ItemsTo l (R ++ [X.take (cutAt false X)]) (X.drop (cutAt false X + 1)) := by
  refine ⟨fun p hp => ?_, fun L hL => ?_, fun e => absurd (h.nil e).2 hX⟩
  · rw [List.mem_append, List.mem_singleton] at hp
    rcases hp with hp | hp
    · exact h.each p hp
    · rw [hp, List.length_take]; omega
  · obtain ⟨h1, h2, h3⟩ := h.all L hL
    have hlt : R.length < L.length := by
      apply Classical.byContradiction
      intro hn
      rw [List.drop_eq_nil_of_le (by omega)] at h3
      exact hX h3
    have e : L.drop R.length = L[R.length] :: L.drop (R.length + 1) := List.drop_eq_getElem_cons hlt
    have hp := (hL.each L[R.length] (List.getElem_mem _)).1
    rw [e] at h3
    have hc : cutAt false X = (L[R.length]).length := by rw [h3]; exact cut_first hp _
    refine ⟨by simp; omega, ?_, ?_⟩
    · rw [hc, h3, join_take, List.length_append, List.length_singleton, List.take_succ_eq_append_getElem hlt, ← h2]
    · rw [hc, List.length_append, List.length_singleton]
      conv => lhs; rw [h3]
      rw [join_drop]
theorem ItemsTo.done {l : List UInt8} {R : List (List UInt8)} {X : List UInt8} (h : ItemsTo l R X) (hl : R.length ≤ 51) (hX : X = [] ∨ 50 < R.length) : ItemsAre l R := by
  refine ⟨hl, h.each, fun L hL => ?_, fun e => (h.nil e).1⟩
  obtain ⟨h1, h2, h3⟩ := h.all L hL
  have := hL.len
  rcases hX with hX | hX
  · rw [hX] at h3
    have e := join_nil (fun p hp => (hL.each p (List.mem_of_mem_drop hp)).2) h3.symm
    have := congrArg List.length e
    rw [List.length_drop] at this
    rw [h2, List.take_of_length_le (by simp at this; omega)]
  · omega

theorem own_sl {w : World} {base e size n : Nat} {v : Value} {xs : List Value} (h : w.ownsRow base e size v n xs) : ∃ a cap, v = .slice a n cap := by
  rcases h.2 with ⟨rfl, rfl⟩ | ⟨g, cap, cur, rfl, _⟩
  · exact ⟨_, _, rfl⟩
  · exact ⟨_, _, rfl⟩

set_option maxHeartbeats 2000000 in
theorem guessItems_any (s : ByteArray) (w : World) (hs : s.size ≤ 1048576) (hz : 1 ≤ s.size) :
    Calls Tryz.prog 131 #[.string s] w fun e w' => (∃ v R, e = .returned v ∧ w'.ownsRow w.heap.size 9 1 v R.length (strsV R) ∧ Hid (ItemsAre s.data.toList R)) ∧ Below w.heap.size w w' := by
  have zs : s.data.toList.length = s.size := by simp
  obtain ⟨i0, hi, hz0, hz1, hz2⟩ := info_parts info_str
  obtain ⟨M, hM⟩ : ∃ M : Nat, M = max 1 (s.size - 1) := ⟨_, rfl⟩
  obtain ⟨X0, hX0⟩ : ∃ X0, s.extract 1 M = X0 := ⟨_, rfl⟩
  have l0 : X0.data.toList = midL s.data.toList := by
    rw [← hX0, mid_bytes]
    unfold midL
    show (s.data.toList.drop 1).take (M - 1) = _
    rw [zs]; congr 1; omega
  have z0 : X0.size ≤ s.size := by rw [← hX0, ByteArray.size_extract]; omega
  have it0 := hide (show ItemsTo s.data.toList [] X0.data.toList by rw [l0]; exact ItemsTo.start _)
  have m1 : (M : Int) = max 1 ((s.size : Int) - 1) := by omega
  have m2 : 1 ≤ M ∧ M ≤ s.size := by omega
  clear l0
  go_enter Tryz.func131, Tryz.ntmps131
  go_wp2_with fail
  go_loopw [3, 4] (fun v r w' => ∃ (R : List (List UInt8)) (X : ByteArray), r = .string X ∧ R.length ≤ 51 ∧ X.size ≤ s.size ∧ Hid (w'.ownsRow w.heap.size 9 1 v R.length (strsV R)) ∧ Hid (Below w.heap.size w w') ∧ Hid (ItemsTo s.data.toList R X.data.toList)) (fun _ r _ => (match r with | .string X => X.size | _ => 0))
  case atStart => exact ⟨[], X0, by rw [show (max 1 ((s.size : Int) - 1)).toNat = M by omega, hX0], by simp, z0, hide (World.ownsRow_nil _ _ _ _), hide (Below.refl _ _), it0⟩
  case round =>
    obtain ⟨R, X, rfl, hR, hX, hown, hb, hit⟩ := hrel
    obtain ⟨av, cv, ev⟩ := own_sl (unhide hown)
    subst ev
    have zX : X.data.toList.length = X.size := by simp
    clear it0 hX0 hM m1 m2 z0
    by_cases he : X.size = 0
    · have xe : X.toList.isEmpty = true := by
        rw [ByteArray.toList_eq, List.length_eq_zero_iff.1 (zX.trans he)]; rfl
      have fin := hide ((unhide hit).done hR (.inl (List.length_eq_zero_iff.1 (zX.trans he))))
      clear hit
      go_wp2_with fail
      go_ret
      exact ⟨⟨_, R, rfl, unhide hown, fin⟩, unhide hb⟩
    have xe : X.toList.isEmpty = false := by
      rw [ByteArray.toList_eq]
      cases h : X.data.toList with
      | nil => rw [h] at zX; simp at zX; omega
      | cons _ _ => rfl
    by_cases hl : 50 < R.length
    · have fin := hide ((unhide hit).done hR (.inr hl))
      have d50 : decide ((R.length : Int) ≤ 50) = false := by simp; omega
      clear hit
      go_wp2_with fail
      go_ret
      exact ⟨⟨_, R, rfl, unhide hown, fin⟩, unhide hb⟩
    have d50 : decide ((R.length : Int) ≤ 50) = true := by simp; omega
    have q1 := hide (fun w => itemLength_any X w (by omega))
    have hc := cut_le X.data.toList false
    have st := hide ((unhide hit).step (fun h => by rw [h] at zX; simp at zX; omega) (by omega))
    obtain ⟨C, hC⟩ : ∃ C, cutAt false X.data.toList = C := ⟨_, rfl⟩
    rw [hC] at q1 hc st
    have eC : X.extract 0 C = ⟨(X.data.toList.take C).toArray⟩ := by rw [mid_bytes]; simp
    obtain ⟨D, hD⟩ : ∃ D : Nat, D = min (C + 1) X.size := ⟨_, rfl⟩
    have eD : (X.extract D X.size).data.toList = X.data.toList.drop (C + 1) := by
      rw [mid_bytes]
      show (X.data.toList.drop D).take (X.size - D) = _
      rw [List.take_of_length_le (by rw [List.length_drop]; omega)]
      by_cases h : C + 1 ≤ X.size
      · rw [show D = C + 1 by omega]
      · rw [List.drop_eq_nil_of_le (by omega), List.drop_eq_nil_of_le (by omega)]
    have sD : (X.extract D X.size).size = X.size - D := by rw [ByteArray.size_extract]; omega
    rw [← eD] at st
    have mD : (D : Int) = min ((C : Int) + 1) (X.size : Int) := by omega
    have dD : D ≤ X.size := by omega
    have d1 : 1 ≤ D := by omega
    clear hC hit eD
    go_wp2_with fail
    refine (unhide q1 _).mono ?_
    rintro e w1 ⟨rfl, rfl⟩
    clear q1
    go_wp2_with (at_builtin; refine wpList_append_own_at _ rfl _ _ 25 rfl w.heap.size 9 i0 _ 1 16 Tryz.underlying25 hi hz0 hz1 hz2 rfl (by decide) _ _ _ rfl ((unhide hown).alloc _) ⟨_, 0, none⟩ 1 1 [.string _] rfl rfl (cell_one_new _ _ _) (fun x hx => by simp at hx; subst hx; rfl) (by unfold maxLen; omega) (by omega) (by have := (unhide hb).size; simp; omega) ?_; intro v3 w3 hown3 hgrow3 _ hat3)
    have tD : (min ((C : Int) + 1) (X.size : Int)).toNat = D := by omega
    rw [tD]
    refine ⟨⟨R ++ [X.data.toList.take C], _, rfl, by simp; omega, by omega, hide ?_, hide ((bAl (unhide hb) _).grown hgrow3 (by have := (unhide hb).size; simp; omega) (fun j hj => ((unhide hown).lt j hj).1)), st⟩, ?_⟩
    · simpa [strsV, eC] using hown3
    · show (X.extract D X.size).size < X.size
      omega
end Go.Proofs.YticidjceljjfnaaGreatDoor.V
