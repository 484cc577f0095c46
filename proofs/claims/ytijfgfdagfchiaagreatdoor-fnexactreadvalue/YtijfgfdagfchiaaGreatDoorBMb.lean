/- BPa, BSp, BSa, BSs, BSr, BSw, one behind the other. -/
import Derived.Test.YtijfgfdagfchiaaGreatDoorBMa
import Derived.Deep.AppendLies
/- spec.l1Parts. -/
namespace Go.Proofs.YtijfgfdagfchiaaGreatDoor.V
open Go.RowKit
set_option maxRecDepth 20000

structure PartsAre (l : List UInt8) (R : List (List UInt8)) : Prop where
  len : R.length ≤ l.length + 1
  each : ∀ p ∈ R, p.length ≤ l.length
  all : ∀ L, Fits l L → R = L
  nil : l = [] → R = []
/-- On the way. -/
structure PL (l : List UInt8) (R : List (List UInt8)) (f : Nat) (b : Bool) (k : Nat) : Prop where
  kl : k ≤ l.length
  fk : f ≤ k
  cut : (k - f) + cutAt b (l.drop k) = cutAt false (l.drop f)
  len : R.length ≤ f
  each : ∀ p ∈ R, p.length ≤ l.length
  all : ∀ L, Fits l L → R.length < L.length ∧ R = L.take R.length ∧ l.drop f = Lib.join (L.drop R.length) [44]
theorem PL.start (l : List UInt8) : PL l [] 0 false 0 :=
  ⟨Nat.zero_le _, Nat.le_refl _, by simp, by simp, by simp, fun L h => ⟨by have := h.len; simp; omega, by simp, by simpa using h.is.symm⟩⟩
theorem join_longer (p q : List UInt8) (L : List (List UInt8)) : p.length < (Lib.join (p :: q :: L) [44]).length := by rw [join_two]; simp
theorem PL.piece {l : List UInt8} {R : List (List UInt8)} {f : Nat} {b : Bool} {k : Nat} (h : PL l R f b k) {m : Nat} (hm : cutAt false (l.drop f) = m) {L : List (List UInt8)} (hL : Fits l L) :
    R ++ [(l.drop f).take m] = L.take (R.length + 1) ∧ ((l.drop f).length ≤ m → R.length + 1 = L.length) ∧ (m < (l.drop f).length → R.length + 1 < L.length ∧ l.drop (f + (m + 1)) = Lib.join (L.drop (R.length + 1)) [44]) := by
  obtain ⟨h1, h2, h3⟩ := h.all L hL
  have e : L.drop R.length = L[R.length] :: L.drop (R.length + 1) := List.drop_eq_getElem_cons h1
  have hp := (hL.each L[R.length] (List.getElem_mem _)).1
  rw [e] at h3
  have hc : m = (L[R.length]).length := by rw [← hm, h3]; exact cut_first hp _
  refine ⟨?_, fun hle => ?_, fun hlt => ?_⟩
  · rw [List.take_succ_eq_append_getElem h1, ← h2, h3, hc, join_take]
  · cases hr : L.drop (R.length + 1) with
    | nil =>
      have := congrArg List.length hr
      rw [List.length_drop] at this
      simp at this
      omega
    | cons q t =>
      exfalso
      have := join_longer (L[R.length]) q t
      rw [h3, hr] at hle
      omega
  · cases hr : L.drop (R.length + 1) with
    | nil =>
      exfalso
      rw [h3, hr, join_one] at hlt
      omega
    | cons q t =>
      have := congrArg List.length hr
      rw [List.length_drop] at this
      simp at this
      refine ⟨by omega, ?_⟩
      rw [← List.drop_drop, h3, hc, join_drop, hr]
theorem snoc_each {R : List (List UInt8)} {p : List UInt8} {n : Nat} (h : ∀ q ∈ R, q.length ≤ n) (hp : p.length ≤ n) : ∀ q ∈ R ++ [p], q.length ≤ n := by
  intro q hq
  rw [List.mem_append, List.mem_singleton] at hq
  rcases hq with hq | hq
  · exact h q hq
  · rw [hq]; exact hp
/-- Nothing is left: the last piece. -/
theorem PL.last {l : List UInt8} {R : List (List UInt8)} {f : Nat} {b : Bool} {k : Nat} (h : PL l R f b k) (hne : l ≠ []) (hc : cutAt false (l.drop f) = l.length - f) : PartsAre l (R ++ [l.drop f]) := by
  have h1 := h.len
  have h2 := h.fk
  have h3 := h.kl
  have hl : (l.drop f).length = l.length - f := List.length_drop
  refine ⟨by simp; omega, snoc_each h.each (by omega), fun L hL => ?_, fun e => absurd e hne⟩
  obtain ⟨a, b, _⟩ := h.piece hc hL
  rw [List.take_of_length_le (by omega)] at a
  rw [a, b (by omega)]
  exact List.take_length
theorem PL.fin {l : List UInt8} {R : List (List UInt8)} {f : Nat} {b : Bool} (h : PL l R f b l.length) (hne : l ≠ []) : PartsAre l (R ++ [(l.drop f).take (l.length - f)]) := by
  have hc := h.cut
  rw [List.drop_eq_nil_of_le (Nat.le_refl _), cut_nil] at hc
  have := h.last hne (by omega)
  rwa [List.take_of_length_le (by rw [List.length_drop]; omega)]
theorem PL.com {l : List UInt8} {R : List (List UInt8)} {f k : Nat} (h : PL l R f false k) (hk : k < l.length) (hc : l[k] = 44) : PL l (R ++ [(l.drop f).take (k - f)]) (k + 1) false (k + 1) := by
  have h1 := h.len
  have h2 := h.fk
  have hcut := h.cut
  rw [drop_at hk, hc, cut_com] at hcut
  refine ⟨by omega, Nat.le_refl _, by simp, by simp; omega, snoc_each h.each (by rw [List.length_take, List.length_drop]; omega), fun L hL => ?_⟩
  obtain ⟨a, _, c⟩ := h.piece (m := k - f) (by omega) hL
  obtain ⟨c1, c2⟩ := c (by rw [List.length_drop]; omega)
  rw [List.length_append, List.length_singleton]
  exact ⟨c1, a, by rw [← c2]; congr 1; omega⟩
theorem PL.esc {l : List UInt8} {R : List (List UInt8)} {f k : Nat} (h : PL l R f true k) (hk : k + 1 < l.length) (hc : l[k] = 92) : PL l R f true (k + 2) := by
  have h2 := h.fk
  have hcut := h.cut
  rw [drop_at (by omega), hc, drop_at hk, cut_esc, show k + 1 + 1 = k + 2 from rfl] at hcut
  exact ⟨by omega, by omega, by omega, h.len, h.each, h.all⟩
theorem PL.escEnd {l : List UInt8} {R : List (List UInt8)} {f k : Nat} (h : PL l R f true k) (hk : k + 1 = l.length) (hc : l[k] = 92) : PartsAre l (R ++ [l.drop f]) := by
  have h2 := h.fk
  have hcut := h.cut
  rw [drop_at (by omega), hc, List.drop_eq_nil_of_le (by omega)] at hcut
  have e : cutAt true [92] = 1 := rfl
  rw [e] at hcut
  exact h.last (fun e => by rw [e] at hk; simp at hk) (by omega)
theorem PL.quo {l : List UInt8} {R : List (List UInt8)} {f k : Nat} {b : Bool} (h : PL l R f b k) (hk : k < l.length) (hc : l[k] = 34) : PL l R f (!b) (k + 1) := by
  have h2 := h.fk
  have hcut := h.cut
  rw [drop_at hk, hc, cut_quo] at hcut
  exact ⟨by omega, by omega, by omega, h.len, h.each, h.all⟩
theorem PL.els {l : List UInt8} {R : List (List UInt8)} {f k : Nat} {b : Bool} (h : PL l R f b k) (hk : k < l.length) (h1 : ¬ (l[k] = 92 ∧ b = true)) (h2 : ¬ l[k] = 34) (h3 : ¬ (l[k] = 44 ∧ b = false)) : PL l R f b (k + 1) := by
  have hf := h.fk
  have hcut := h.cut
  rw [drop_at hk, cut_else _ h1 h2 h3] at hcut
  exact ⟨by omega, by omega, by omega, h.len, h.each, h.all⟩

set_option maxHeartbeats 4000000 in
theorem l1Parts_any (s : ByteArray) (w : World) (hs : s.size ≤ 1048576) :
    Calls Tryz.prog 19 #[.string s] w fun e w' => (∃ v R, e = .returned v ∧ w'.ownsRow w.heap.size 9 1 v R.length (strsV R) ∧ Hid (PartsAre s.data.toList R)) ∧ Below w.heap.size w w' := by
  have zs : s.data.toList.length = s.size := by simp
  obtain ⟨i0, hi, hz0, hz1, hz2⟩ := info_parts info_str
  by_cases h0 : s.size = 0
  · have xe : s.toList.isEmpty = true := by
      rw [ByteArray.toList_eq, List.length_eq_zero_iff.1 (zs.trans h0)]; rfl
    have pa := hide (show PartsAre s.data.toList [] from ⟨by simp, by simp, fun L hL => by
      have e : s.data.toList = [] := List.length_eq_zero_iff.1 (zs.trans h0)
      have h := hL.is
      rw [e] at h
      exact (join_nil (fun p hp => (hL.each p hp).2) h).symm, fun _ => rfl⟩)
    go_enter Tryz.func19, Tryz.ntmps19
    go_wp2_with fail
    go_ret
    exact ⟨⟨_, [], rfl, World.ownsRow_nil _ _ _ _, pa⟩, Below.refl _ _⟩
  have hne : s.data.toList ≠ [] := fun e => by rw [e] at zs; simp at zs; omega
  have NE := hide hne
  have xe : s.toList.isEmpty = false := by
    rw [ByteArray.toList_eq]
    cases h : s.data.toList with
    | nil => exact absurd h hne
    | cons _ _ => rfl
  clear hne
  go_enter Tryz.func19, Tryz.ntmps19
  go_wp2_with fail
  go_loopw [3, 4, 5, 6] (fun v f q i w' => ∃ (k F : Nat) (b : Bool) (R : List (List UInt8)), k ≤ s.size + 1 ∧ F ≤ k ∧ f = .int .i64 F ∧ q = .bool b ∧ i = .int .i64 k ∧ R.length ≤ s.size + 1 ∧ Hid (w'.ownsRow w.heap.size 9 1 v R.length (strsV R)) ∧ Hid (Below w.heap.size w w') ∧ Hid (PL s.data.toList R F b k ∨ (k = s.size + 1 ∧ PartsAre s.data.toList R))) (fun _ _ _ i _ => s.size + 2 - (intOf i).toNat)
  case atStart => exact ⟨0, 0, false, [], by omega, by omega, rfl, rfl, rfl, by simp, hide (World.ownsRow_nil _ _ _ _), hide (Below.refl _ _), hide (.inl (PL.start _))⟩
  case round =>
    obtain ⟨k, F, b, R, hk1, hF, rfl, rfl, rfl, hR, hown, hb, hpl⟩ := hrel
    by_cases hle : k ≤ s.size
    · have pl : Hid (PL s.data.toList R F b k) := hide (by
        rcases unhide hpl with h | ⟨h, _⟩
        · exact h
        · omega)
      have lenR := (unhide pl).len
      clear hpl
      have em := mid_bytes s F k
      have x0 : (F : Int) ≤ (k : Int) := by omega
      have x1 : (k : Int) ≤ (s.size : Int) := by omega
      by_cases hend : k = s.size
      · subst hend
        have st := hide (show PL s.data.toList (R ++ [(s.data.toList.drop F).take (s.size - F)]) (s.size + 1) b (s.size + 1) ∨ (s.size + 1 = s.size + 1 ∧ PartsAre s.data.toList (R ++ [(s.data.toList.drop F).take (s.size - F)])) from .inr ⟨rfl, by
          have h := unhide pl
          rw [← zs] at h ⊢
          exact h.fin (unhide NE)⟩)
        clear pl
        go_wp2_with (at_builtin; refine wpList_append_own_at _ rfl _ _ 29 rfl w.heap.size 9 i0 _ 1 16 Tryz.underlying29 hi hz0 hz1 hz2 rfl (by decide) _ _ _ rfl ((unhide hown).alloc _) ⟨_, 0, none⟩ 1 1 [.string _] rfl rfl (cell_one_new _ _ _) (fun x hx => by simp at hx; subst hx; rfl) (by unfold maxLen; omega) (by omega) (by have := (unhide hb).size; simp; omega) ?_; intro v3 w3 hown3 hgrow3 _ hat3)
        refine ⟨⟨s.size + 1, s.size + 1, b, R ++ [(s.data.toList.drop F).take (s.size - F)], by omega, by omega, by simp, rfl, by simp, by simp; omega, hide ?_, hide ((bAl (unhide hb) _).grown hgrow3 (by have := (unhide hb).size; simp; omega) (fun j hj => ((unhide hown).lt j hj).1)), st⟩, by simp [intOf]⟩
        simpa [strsV] using hown3
      · have hk : k < s.size := by omega
        obtain ⟨c, hc⟩ : ∃ c, s[k] = c := ⟨_, rfl⟩
        have lc : s.data.toList[k]'(by omega) = c := by rw [← hc]; rfl
        have xe2 : ((k : Int) == (s.size : Int)) = false := by rw [beq_eq_false_iff_ne]; omega
        have e92 : ((c.toNat : Int) == 92) = decide (c = 92) := u8_is (n := 92) (by decide)
        have e34 : ((c.toNat : Int) == 34) = decide (c = 34) := u8_is (n := 34) (by decide)
        have e44 : ((c.toNat : Int) == 44) = decide (c = 44) := u8_is (n := 44) (by decide)
        by_cases p44 : c = 44 ∧ b = false
        · obtain ⟨p, rfl⟩ := p44
          have st := hide (show PL s.data.toList (R ++ [(s.data.toList.drop F).take (k - F)]) (k + 1) false (k + 1) ∨ (k + 1 = s.size + 1 ∧ PartsAre s.data.toList (R ++ [(s.data.toList.drop F).take (k - F)])) from .inl ((unhide pl).com (by omega) (by rw [lc, p])))
          rw [decide_eq_true p] at e44
          clear pl lc p e92 e34
          go_wp2_with (at_builtin; refine wpList_append_own_at _ rfl _ _ 29 rfl w.heap.size 9 i0 _ 1 16 Tryz.underlying29 hi hz0 hz1 hz2 rfl (by decide) _ _ _ rfl ((unhide hown).alloc _) ⟨_, 0, none⟩ 1 1 [.string _] rfl rfl (cell_one_new _ _ _) (fun x hx => by simp at hx; subst hx; rfl) (by unfold maxLen; omega) (by omega) (by have := (unhide hb).size; simp; omega) ?_; intro v3 w3 hown3 hgrow3 _ hat3)
          refine ⟨⟨k + 1, k + 1, false, R ++ [(s.data.toList.drop F).take (k - F)], by omega, by omega, by simp, rfl, by simp, by simp; omega, hide ?_, hide ((bAl (unhide hb) _).grown hgrow3 (by have := (unhide hb).size; simp; omega) (fun j hj => ((unhide hown).lt j hj).1)), st⟩, by simp [intOf]; omega⟩
          simpa [strsV] using hown3
        by_cases p92 : c = 92 ∧ b = true
        · obtain ⟨p, rfl⟩ := p92
          rw [decide_eq_true p] at e92
          rw [decide_eq_false (by rw [p]; decide)] at e44
          by_cases hlast : k + 1 = s.size
          · have pa := hide ((unhide pl).escEnd (by omega) (by rw [lc, p]))
            have eD : s.extract F s.size = ⟨(s.data.toList.drop F).toArray⟩ := cut_drop s F
            have yl : ((k : Int) + 1 == (s.size : Int)) = true := by rw [beq_iff_eq]; omega
            clear pl lc p e34 em
            go_wp2_with (at_builtin; refine wpList_append_own_at _ rfl _ _ 29 rfl w.heap.size 9 i0 _ 1 16 Tryz.underlying29 hi hz0 hz1 hz2 rfl (by decide) _ _ _ rfl ((unhide hown).alloc _) ⟨_, 0, none⟩ 1 1 [.string _] rfl rfl (cell_one_new _ _ _) (fun x hx => by simp at hx; subst hx; rfl) (by unfold maxLen; omega) (by omega) (by have := (unhide hb).size; simp; omega) ?_; intro v3 w3 hown3 hgrow3 _ hat3)
            obtain ⟨a3, c3, e3⟩ := own_sl hown3
            subst e3
            go_ret
            refine ⟨⟨_, R ++ [s.data.toList.drop F], rfl, ?_, pa⟩, unhide (hide ((bAl (unhide hb) _).grown hgrow3 (by have := (unhide hb).size; simp; omega) (fun j hj => ((unhide hown).lt j hj).1)))⟩
            simpa [strsV, eD] using hown3
          · have st := hide (show PL s.data.toList R F true (k + 2) ∨ (k + 2 = s.size + 1 ∧ PartsAre s.data.toList R) from .inl ((unhide pl).esc (by omega) (by rw [lc, p])))
            have yl : ((k : Int) + 1 == (s.size : Int)) = false := by rw [beq_eq_false_iff_ne]; omega
            clear pl lc p e34
            go_wp2_with fail
            exact ⟨⟨k + 2, F, true, R, by omega, by omega, rfl, rfl, by go_num, hR, hown, hb, st⟩, by simp [intOf]; omega⟩
        by_cases p34 : c = 34
        · have st := hide (show PL s.data.toList R F (!b) (k + 1) ∨ (k + 1 = s.size + 1 ∧ PartsAre s.data.toList R) from .inl ((unhide pl).quo (by omega) (by rw [lc, p34])))
          rw [decide_eq_true p34] at e34
          rw [decide_eq_false (by rw [p34]; decide)] at e92 e44
          clear pl lc p34 p92 p44
          cases b
          all_goals
            go_wp2_with fail
            exact ⟨⟨k + 1, F, _, R, by omega, by omega, rfl, rfl, by simp, hR, hown, hb, st⟩, by simp [intOf]; omega⟩
        · have st := hide (show PL s.data.toList R F b (k + 1) ∨ (k + 1 = s.size + 1 ∧ PartsAre s.data.toList R) from .inl ((unhide pl).els (by omega) (by rw [lc]; exact p92) (by rw [lc]; exact p34) (by rw [lc]; exact p44)))
          rw [decide_eq_false p34] at e34
          clear pl lc p34
          cases b
          · have p : ¬ c = 44 := fun h => p44 ⟨h, rfl⟩
            rw [decide_eq_false p] at e44
            clear p92 p44
            by_cases q92 : c = 92
            · rw [decide_eq_true q92] at e92
              clear q92 p
              go_wp2_with fail
              exact ⟨⟨k + 1, F, _, R, by omega, by omega, rfl, rfl, by simp, hR, hown, hb, st⟩, by simp [intOf]; omega⟩
            · rw [decide_eq_false q92] at e92
              clear q92 p
              go_wp2_with fail
              exact ⟨⟨k + 1, F, _, R, by omega, by omega, rfl, rfl, by simp, hR, hown, hb, st⟩, by simp [intOf]; omega⟩
          · have p : ¬ c = 92 := fun h => p92 ⟨h, rfl⟩
            rw [decide_eq_false p] at e92
            clear p92 p44
            by_cases q44 : c = 44
            · rw [decide_eq_true q44] at e44
              clear q44 p
              go_wp2_with fail
              exact ⟨⟨k + 1, F, _, R, by omega, by omega, rfl, rfl, by simp, hR, hown, hb, st⟩, by simp [intOf]; omega⟩
            · rw [decide_eq_false q44] at e44
              clear q44 p
              go_wp2_with fail
              exact ⟨⟨k + 1, F, _, R, by omega, by omega, rfl, rfl, by simp, hR, hown, hb, st⟩, by simp [intOf]; omega⟩
    · have pa := hide (show PartsAre s.data.toList R by
        rcases unhide hpl with h | ⟨_, h⟩
        · have := h.kl; omega
        · exact h)
      clear hpl
      obtain ⟨a3, c3, e3⟩ := own_sl (unhide hown)
      subst e3
      go_wp2_with fail
      go_ret
      exact ⟨⟨_, R, rfl, unhide hown, pa⟩, unhide hb⟩
end Go.Proofs.YtijfgfdagfchiaaGreatDoor.V
/- spec.ReadValue: what it leans on, pure. -/
namespace Go.Proofs.YtijfgfdagfchiaaGreatDoor.V
open Go.RowKit
set_option maxRecDepth 20000

theorem join_le (m : Nat) : ∀ L : List (List UInt8), (∀ p ∈ L, p.length ≤ m) → (Lib.join L [44]).length ≤ L.length * (m + 1)
  | [], _ => by simp [Lib.join, List.intercalate]
  | [p], h => by rw [join_one]; have := h p (by simp); simp; omega
  | p :: q :: L, h => by
    have ih := join_le m (q :: L) (fun x hx => h x (List.mem_cons_of_mem _ hx))
    have hp := h p (by simp)
    rw [join_two, List.length_append, List.length_append]
    simp only [List.length_cons, List.length_nil] at ih ⊢
    rw [Nat.succ_mul (L.length + 1) (m + 1)]
    omega
theorem name_30 {y : ByteArray} (h : goodName y = true) : y.data.toList.length ≤ 30 := by
  have hn : nameL y.data.toList = true := h
  unfold nameL at hn
  simp only [Bool.and_eq_true, decide_eq_true_eq] at hn
  omega
/-- A good value's text has at most 60000 bytes. -/
theorem val_60000 {v : ValT} (hv : v.Ok) (hg : GoodVal v) : (valL v).length ≤ 60000 := by
  rcases hg with ⟨h1, h2, _, _⟩ | ⟨h1, h2, h3, h4, _, h6⟩ | ⟨h1, h2, h3, h4, h5, h6, _⟩
  · rw [valL_1 h1]
    have := atom_500 (k := v.a.x) (n := v.a.n) (t := v.a.t) (y := v.a.y) h2 hv.a.n8 hv.a.n9
    have e : v.a.l.length ≤ 500 := this
    omega
  · rw [valL_2 h1]
    have := join_le 500 (v.items.map AtomT.l) (fun p hp => by
      obtain ⟨a, ha, rfl⟩ := List.mem_map.1 hp
      obtain ⟨j, hj, rfl⟩ := List.getElem_of_mem ha
      have o := hv.items _ (List.getElem_mem hj)
      exact atom_500 (h4 j hj hj) o.n8 o.n9)
    rw [List.length_map] at this
    simp only [List.length_cons, List.length_append, List.length_nil]
    have : v.items.length * (500 + 1) ≤ 50 * 501 := Nat.mul_le_mul_right _ h3
    omega
  · rw [valL_3 h1]
    have := join_le 531 (List.zipWith (fun n a => n.data.toList ++ 58 :: AtomT.l a) v.names v.items) (fun p hp => by
      obtain ⟨j, hj, rfl⟩ := List.getElem_of_mem hp
      rw [List.length_zipWith] at hj
      rw [List.getElem_zipWith, List.length_append, List.length_cons]
      have o := hv.items _ (List.getElem_mem (show j < v.items.length by omega))
      have x := atom_500 (h4 j (by omega) (by omega)) o.n8 o.n9
      have x' : (v.items[j]'(by omega)).l.length ≤ 500 := x
      have y := name_30 (h6 j (by omega) (by omega))
      omega)
    rw [List.length_zipWith] at this
    simp only [List.length_cons, List.length_append, List.length_nil]
    have : min v.names.length v.items.length * (531 + 1) ≤ 50 * 532 := Nat.mul_le_mul_right _ (by omega)
    omega
theorem val_two {v : ValT} (hv : v.Ok) (hg : GoodVal v) : (v.k = 1 ∧ ∃ c r, valL v = c :: r ∧ ¬ c = 91 ∧ ¬ c = 123) ∨ (v.k = 2 ∧ ∃ r, valL v = 91 :: r ∧ 1 ≤ r.length) ∨ (v.k = 3 ∧ ∃ r, valL v = 123 :: r ∧ 1 ≤ r.length) := by
  rcases hg with ⟨h1, h2, _⟩ | ⟨h1, _⟩ | ⟨h1, _⟩
  · exact .inl ⟨h1, good_first hv h1 h2⟩
  · exact .inr (.inl ⟨h1, _, valL_2 h1, by simp⟩)
  · exact .inr (.inr ⟨h1, _, valL_3 h1, by simp⟩)
/-- A text that does not open with a bracket, or is but one byte. -/
theorem vis_atom {l : List UInt8} {x n : Int} {t y : ByteArray} (h : AtmIs l x n t y true) (hc : ∀ r, 1 ≤ r.length → ¬ l = 91 :: r ∧ ¬ l = 123 :: r) : VIs l ⟨1, ⟨x, n, t, y⟩, [], []⟩ true := by
  obtain ⟨g, e, h0, h1⟩ := h.yes rfl
  refine ⟨fun _ => ⟨.inl ⟨rfl, g, rfl, rfl⟩, by rw [valL_1 rfl]; exact e, ⟨atm_ok h, (fun q hq => by cases hq), (fun q hq => by cases hq)⟩⟩, fun v' hv hg e => ⟨rfl, ?_⟩, fun h => (by cases h)⟩
  rcases val_two hv hg with ⟨k1, _⟩ | ⟨_, r, e2, hr⟩ | ⟨_, r, e2, hr⟩
  · rcases hg with ⟨_, h2, h3, h4⟩ | ⟨k2, _⟩ | ⟨k2, _⟩
    · rw [valL_1 k1] at e
      obtain ⟨_, a, b, c, d⟩ := h.all _ _ _ _ h2 hv.a.n8 hv.a.n9 e
      obtain ⟨k, ⟨x', n', t', y'⟩, items, names⟩ := v'
      simp only at k1 h3 h4 a b c d
      rw [k1, h3, h4, a, b, c, d]
    · omega
    · omega
  · rw [e2] at e; exact absurd e.symm (hc r hr).1
  · rw [e2] at e; exact absurd e.symm (hc r hr).2
theorem vno_atom {l : List UInt8} {x n : Int} {t y : ByteArray} (h : AtmIs l x n t y false) (hc : ∀ r, 1 ≤ r.length → ¬ l = 91 :: r ∧ ¬ l = 123 :: r) : VIs l zVal false := by
  refine v_no (fun v' hv hg e => ?_)
  rcases val_two hv hg with ⟨k1, _⟩ | ⟨_, r, e2, hr⟩ | ⟨_, r, e2, hr⟩
  · rcases hg with ⟨_, h2, h3, h4⟩ | ⟨k2, _⟩ | ⟨k2, _⟩
    · rw [valL_1 k1] at e
      have := (h.all _ _ _ _ h2 hv.a.n8 hv.a.n9 e).1
      cases this
    · omega
    · omega
  · rw [e2] at e; exact absurd e.symm (hc r hr).1
  · rw [e2] at e; exact absurd e.symm (hc r hr).2
/-- What spec.ValueText says of any value. -/
theorem vtext (v : ValT) (hv : v.Ok) : ∃ T : ByteArray, (∀ (a1 a2 : Option Addr) (l1 c1 l2 c2 : Nat) (w : World), SlA w a1 l1 v.items → SlS w a2 l2 v.names →
    Calls Tryz.prog 20 #[.agg #[.int .i64 v.k, .int .i64 v.a.x, .int .i64 v.a.n, .string v.a.t, .string v.a.y, .slice a1 l1 c1, .slice a2 l2 c2]] w fun e w' => e = .returned (.string T) ∧ Below w.heap.size w w') ∧ ((GoodVal v ∧ T = ⟨(valL v).toArray⟩) ∨ (¬ GoodVal v ∧ T = ⟨#[]⟩)) := by
  by_cases hg : GoodVal v
  · exact ⟨_, fun a1 a2 l1 c1 l2 c2 w h1 h2 => sValueText_yes v hv a1 a2 l1 c1 l2 c2 w h1 h2 hg, .inl ⟨hg, rfl⟩⟩
  · exact ⟨_, fun a1 a2 l1 c1 l2 c2 w h1 h2 => sValueText_not v hv a1 a2 l1 c1 l2 c2 w h1 h2 hg, .inr ⟨hg, rfl⟩⟩
theorem vis_end {s : ByteArray} {v : ValT} {T : ByteArray} (hz : 1 ≤ s.size) (hgu : GuessV s.data.toList v) (hT : (GoodVal v ∧ T = ⟨(valL v).toArray⟩) ∨ (¬ GoodVal v ∧ T = ⟨#[]⟩)) : (T = s → VIs s.data.toList v true) ∧ (¬ T = s → VIs s.data.toList zVal false) := by
  refine ⟨fun e => ?_, fun e => ?_⟩
  · rcases hT with ⟨h1, h2⟩ | ⟨_, h2⟩
    · exact ⟨fun _ => ⟨h1, by rw [← e, h2], hgu.ok⟩, fun v' a b e => ⟨rfl, hgu.fit v' a b e⟩, fun h => (by cases h)⟩
    · rw [h2] at e
      rw [← e] at hz
      exact absurd hz (by decide)
  · refine v_no (fun v' a b e2 => ?_)
    have := hgu.fit v' a b e2
    subst this
    rcases hT with ⟨_, h2⟩ | ⟨h1, _⟩
    · exact e (by rw [h2, e2, mk_list])
    · exact h1 b
/-- The parts of what stands between the brackets. -/
theorem parts_items {l : List UInt8} {R : List (List UInt8)} (h : PartsAre (midL l) R) : ∀ L, Fits (midL l) L → R = L := h.all
/-- Of a good set the pieces are the parts. -/
theorem set_parts {l : List UInt8} {R : List (List UInt8)} (hp : PartsAre (midL l) R) (hc : ∃ r, l = 91 :: r) {v' : ValT} (hv : v'.Ok) (hg : GoodVal v') (e : valL v' = l) : v'.k = 2 ∧ zeroA v'.a ∧ v'.names = [] ∧ R = v'.items.map AtomT.l ∧ ∀ a ∈ v'.items, a.good = true ∧ a.Ok := by
  obtain ⟨r, hc⟩ := hc
  rcases hg with ⟨h1, h2, _, _⟩ | ⟨h1, h2, h3, h4, _, h6⟩ | ⟨h1, _⟩
  · exfalso
    obtain ⟨c, r', e2, n1, _⟩ := good_first hv h1 h2
    rw [e2, hc] at e
    injection e with e
    exact n1 e
  · have hA : ∀ a ∈ v'.items, a.good = true ∧ a.Ok := fun a ha => by
      obtain ⟨j, hj, rfl⟩ := List.getElem_of_mem ha
      exact ⟨h4 j hj hj, hv.items _ (List.getElem_mem _)⟩
    have em : midL l = Lib.join (v'.items.map AtomT.l) [44] := by rw [← e, valL_2 h1, mid_of]
    refine ⟨h1, h2, h6, ?_, hA⟩
    by_cases hn : v'.items = []
    · rw [hp.nil (by rw [em, hn]; rfl), hn]; rfl
    · exact hp.all _ (by rw [em]; exact fits_set hA h3 hn)
  · exfalso
    rw [valL_3 h1, hc] at e
    injection e with e
    exact absurd e (by decide)
theorem set_guess {l : List UInt8} {R : List (List UInt8)} {I : List AtomT} (hp : PartsAre (midL l) R) (hr : RdOf R I) (hl : I.length = R.length) (hc : ∃ r, l = 91 :: r) : GuessV l ⟨2, zA, I, []⟩ := by
  refine ⟨⟨zA_ok, fun q hq => ?_, fun q hq => by cases hq⟩, fun v' hv hg e => ?_⟩
  · obtain ⟨j, hj, rfl⟩ := List.getElem_of_mem hq
    obtain ⟨ok, ha⟩ := hr.each j hj (by have : j < I.length := hj; omega)
    exact atm_ok ha
  · obtain ⟨h1, h2, h3, h4, h5⟩ := set_parts hp hc hv hg e
    have eI := hr.is hl h4 h5
    obtain ⟨k, a, items, names⟩ := v'
    simp only at h1 h2 h3 eI
    rw [eI, h1, h3, zeroA_eq h2]
theorem set_bad {l : List UInt8} {R : List (List UInt8)} {k : Nat} (hp : PartsAre (midL l) R) (hk : k < R.length) (hc : ∃ r, l = 91 :: r) {x n : Int} {t y : ByteArray} (ha : AtmIs R[k] x n t y false) : VIs l zVal false := by
  refine v_no (fun v' hv hg e => ?_)
  obtain ⟨_, _, _, h4, h5⟩ := set_parts hp hc hv hg e
  have hk2 : k < v'.items.length := by rw [h4, List.length_map] at hk; exact hk
  obtain ⟨g, o⟩ := h5 v'.items[k] (List.getElem_mem _)
  have e2 : R[k] = (v'.items[k]).l := by simp [h4]
  rw [e2] at ha
  have := (ha.all _ _ _ _ g o.n8 o.n9 rfl).1
  cases this
/-- Of a good record the pieces are the parts. -/
theorem rec_parts {l : List UInt8} {R : List (List UInt8)} (hp : PartsAre (midL l) R) (hc : ∃ r, l = 123 :: r) {v' : ValT} (hv : v'.Ok) (hg : GoodVal v') (e : valL v' = l) :
    v'.k = 3 ∧ zeroA v'.a ∧ v'.names.length = v'.items.length ∧ R.length = v'.items.length ∧ ∀ j (h1 : j < R.length) (h2 : j < v'.names.length) (h3 : j < v'.items.length), R[j] = (v'.names[j]).data.toList ++ 58 :: (v'.items[j]).l ∧ (58 : UInt8) ∉ (v'.names[j]).data.toList ∧ (v'.items[j]).good = true ∧ (v'.items[j]).Ok := by
  obtain ⟨r, hc⟩ := hc
  rcases hg with ⟨h1, h2, _, _⟩ | ⟨h1, _⟩ | ⟨h1, h2, h3, h4, h5, h6, _⟩
  · exfalso
    obtain ⟨c, r', e2, _, n1⟩ := good_first hv h1 h2
    rw [e2, hc] at e
    injection e with e
    exact n1 e
  · exfalso
    rw [valL_2 h1, hc] at e
    injection e with e
    exact absurd e (by decide)
  · obtain ⟨Z, hZ⟩ : ∃ Z, List.zipWith (fun n a => n.data.toList ++ 58 :: AtomT.l a) v'.names v'.items = Z := ⟨_, rfl⟩
    have em : midL l = Lib.join Z [44] := by rw [← e, valL_3 h1, mid_of, hZ]
    have lZ : Z.length = v'.items.length := by rw [← hZ, List.length_zipWith]; omega
    have gZ : ∀ j (hj : j < Z.length), Z[j] = (v'.names[j]'(by omega)).data.toList ++ 58 :: (v'.items[j]'(by omega)).l := fun j hj => by simp [← hZ]
    have gA : ∀ j (hj : j < v'.items.length), (v'.items[j]).good = true ∧ (v'.items[j]).Ok := fun j hj => ⟨h4 j hj hj, hv.items _ (List.getElem_mem _)⟩
    have gN : ∀ j (hj : j < v'.names.length), goodName v'.names[j] = true := fun j hj => h6 j hj hj
    have eR : R = Z := by
      by_cases hn : v'.items = []
      · have z0 : Z = [] := List.length_eq_zero_iff.1 (by rw [lZ, hn]; rfl)
        rw [z0]
        exact hp.nil (by rw [em, z0]; rfl)
      · refine hp.all Z (by
          rw [em]
          refine ⟨⟨?_, by omega⟩, fun p hp => ?_, rfl⟩
          · have : 0 < v'.items.length := List.length_pos_iff.2 hn
            omega
          · obtain ⟨j, hj, rfl⟩ := List.getElem_of_mem hp
            rw [gZ j hj]
            obtain ⟨g, o⟩ := gA j (by omega)
            have e2 : (v'.names[j]'(by omega)).data.toList ++ 58 :: (v'.items[j]'(by omega)).l = ((v'.names[j]'(by omega)).data.toList ++ [58]) ++ (v'.items[j]'(by omega)).l := by simp
            refine ⟨?_, by simp⟩
            rw [e2]
            exact ((pass_name (gN j (by omega))).app (pass_one (by decide) (by decide))).app (pass_atom g o.n8 o.n9))
    subst eR
    exact ⟨h1, h2, h5, lZ, fun j a b c => ⟨gZ j a, fun h => (okc_plain ((name_parts (gN j (by omega))).2 _ h)).2.2 rfl, gA j c⟩⟩
theorem rec_guess {l : List UInt8} {R N : List (List UInt8)} {I : List AtomT} (hs : l.length ≤ 1048576) (hp : PartsAre (midL l) R) (hr : RdRec R N I) (hl : I.length = R.length) (hc : ∃ r, l = 123 :: r) : GuessV l ⟨3, zA, I, N.map mkB⟩ := by
  have hln := hr.ln
  have hm : (midL l).length ≤ l.length := by unfold midL; rw [List.length_take, List.length_drop]; omega
  refine ⟨⟨zA_ok, fun q hq => ?_, fun q hq => ?_⟩, fun v' hv hg e => ?_⟩
  · obtain ⟨j, hj, rfl⟩ := List.getElem_of_mem hq
    have hj' : j < I.length := hj
    obtain ⟨_, ok, ha⟩ := hr.each j hj (by omega) (by omega)
    exact atm_ok ha
  · obtain ⟨p, hp', rfl⟩ := List.mem_map.1 hq
    obtain ⟨j, hj, rfl⟩ := List.getElem_of_mem hp'
    obtain ⟨e1, _⟩ := hr.each j (by omega) (by omega) hj
    have := hp.each R[j] (List.getElem_mem _)
    have h2 := (cut_len 58 R[j]).1
    unfold mkB
    rw [sz_arr, e1]
    unfold maxLen
    omega
  · obtain ⟨h1, h2, h3, h4, h5⟩ := rec_parts hp hc hv hg e
    have eI : I = v'.items := by
      apply List.ext_getElem (by omega)
      intro j a1 a2
      obtain ⟨_, ok, ha⟩ := hr.each j a1 (by omega) (by omega)
      obtain ⟨x1, x2, x3, x4⟩ := h5 j (by omega) (by omega) a2
      rw [x1, cutC_app 58 _ _ x2] at ha
      obtain ⟨_, a, b, c, d⟩ := ha.all _ _ _ _ x3 x4.n8 x4.n9 rfl
      cases hI : I[j] with
      | mk x n t y =>
        rw [hI] at a b c d
        simp only at a b c d
        rw [a, b, c, d]
    have eN : N.map mkB = v'.names := by
      apply List.ext_getElem (by rw [List.length_map]; omega)
      intro j a1 a2
      rw [List.length_map] at a1
      obtain ⟨e1, _⟩ := hr.each j (by omega) (by omega) a1
      obtain ⟨x1, x2, _, _⟩ := h5 j (by omega) a2 (by omega)
      rw [x1, cutC_app 58 _ _ x2] at e1
      rw [List.getElem_map, e1]
      unfold mkB
      exact mk_list _
    obtain ⟨k, a, items, names⟩ := v'
    simp only at h1 h2 eI eN
    rw [eI, eN, h1, zeroA_eq h2]
theorem rec_bad {l : List UInt8} {R : List (List UInt8)} {k : Nat} (hp : PartsAre (midL l) R) (hk : k < R.length) (hc : ∃ r, l = 123 :: r) {x n : Int} {t y : ByteArray} (ha : AtmIs (cutC 58 R[k]).2 x n t y false) : VIs l zVal false := by
  refine v_no (fun v' hv hg e => ?_)
  obtain ⟨_, _, h3, h4, h5⟩ := rec_parts hp hc hv hg e
  obtain ⟨x1, x2, x3, x4⟩ := h5 k hk (by omega) (by omega)
  rw [x1, cutC_app 58 _ _ x2] at ha
  have := (ha.all _ _ _ _ x3 x4.n8 x4.n9 rfl).1
  cases this
theorem rec_none {l : List UInt8} {R : List (List UInt8)} {k : Nat} (hp : PartsAre (midL l) R) (hk : k < R.length) (hc : ∃ r, l = 123 :: r) (ha : (58 : UInt8) ∉ R[k]) : VIs l zVal false := by
  refine v_no (fun v' hv hg e => ?_)
  obtain ⟨_, _, h3, h4, h5⟩ := rec_parts hp hc hv hg e
  obtain ⟨x1, _⟩ := h5 k hk (by omega) (by omega)
  rw [x1] at ha
  exact ha (by simp)
end Go.Proofs.YtijfgfdagfchiaaGreatDoor.V
/- spec.ReadValue: texts that are too long, and atoms. -/
namespace Go.Proofs.YtijfgfdagfchiaaGreatDoor.V
open Go.RowKit
set_option maxRecDepth 20000

theorem row_set4 {w : World} {b : Nat} {v1 v2 : Value} {k : Int} (h : RowIs w b (zV k v1 v2) 31) (u1 u2 u3 u4 : Value) :
    RowIs ((((w.setCell ⟨b, 1, none⟩ u1).setCell ⟨b, 2, none⟩ u2).setCell ⟨b, 3, none⟩ u3).setCell ⟨b, 4, none⟩ u4) b #[.int .i64 k, u1, u2, u3, u4, v1, v2] 31 := by
  have h7 := (((h.set 1 u1).set 2 u2).set 3 u3).set 4 u4
  have e : (((((zV k v1 v2).setIfInBounds 1 u1).setIfInBounds 2 u2).setIfInBounds 3 u3).setIfInBounds 4 u4) = #[.int .i64 k, u1, u2, u3, u4, v1, v2] := by
    apply Array.toList_inj.1
    simp [zV]
  rw [e] at h7
  exact h7

set_option maxHeartbeats 4000000 in
theorem sReadValue_big (s : ByteArray) (w : World) (hz : 60000 < s.size) :
    Calls Tryz.prog 8 #[.string s] w fun e w' => VRdRet s.data.toList w.heap.size e w' ∧ Below w.heap.size w w' := by
  have zl : s.data.toList.length = s.size := by simp
  have ai := hide (v_no (l := s.data.toList) (fun v' a b e => by have := val_60000 a b; rw [e] at this; omega))
  have g6 : decide (60000 < (s.size : Int)) = true := by simp; omega
  go_enter Tryz.func8, Tryz.ntmps8
  go_wp2_with fail
  refine bodyPost_ret (v := .tuple #[VRet zVal (.slice none 0 0) (.slice none 0 0), .bool false]) (by simp [results, Tryz.results8, go_sem, VRet]) rfl ⟨⟨_, _, _, _, rfl, zval_own _ _, ai⟩, ?_⟩
  exact bAl (bAl (Below.refl _ _) _) _

set_option maxHeartbeats 4000000 in
theorem sReadValue_atom (s : ByteArray) (w : World) (hs : s.size ≤ 60000) (hc : s.size < 2 ∨ ∃ h : 0 < s.size, ¬ s[0] = 91 ∧ ¬ s[0] = 123) :
    Calls Tryz.prog 8 #[.string s] w fun e w' => VRdRet s.data.toList w.heap.size e w' ∧ Below w.heap.size w w' := by
  have zl : s.data.toList.length = s.size := by simp
  have hno := hide (show ∀ r : List UInt8, 1 ≤ r.length → ¬ s.data.toList = 91 :: r ∧ ¬ s.data.toList = 123 :: r from fun r hr => by
    have key : ∀ c : UInt8, s.data.toList = c :: r → c = 91 ∨ c = 123 → False := fun c e h => by
      rcases hc with h2 | ⟨h0, n1, n2⟩
      · rw [e] at zl; simp at zl; omega
      · have hcons := list_cons h0
        rw [e] at hcons
        injection hcons with e1
        rw [← e1] at n1 n2
        rcases h with h | h
        · exact n1 h
        · exact n2 h
    exact ⟨fun e => key 91 e (.inl rfl), fun e => key 123 e (.inr rfl)⟩)
  have g6 : decide (60000 < (s.size : Int)) = false := by simp; omega
  have q1 := hide (fun w => sReadAtom_any s w (by omega))
  have key : ∀ K : Prop, (s.size < 2 → K) → ((h : 0 < s.size) → ¬ s.size < 2 → ¬ s[0] = 91 ∧ ¬ s[0] = 123 → K) → K := fun K h1 h2 => by
    rcases hc with h | ⟨h0, n⟩
    · exact h1 h
    · by_cases h : s.size < 2
      · exact h1 h
      · exact h2 h0 h n
  go_enter Tryz.func8, Tryz.ntmps8
  refine key _ (fun h2 => ?_) (fun h0 h2 n => ?_)
  · have g2 : decide ((s.size : Int) < 2) = true := by simp; omega
    clear hc key
    go_wp2_with fail
    refine (unhide q1 _).mono ?_
    rintro e w1 ⟨⟨x, n, t, y, ok, rfl, ha⟩, hb1⟩
    have HR := hide (two_new w 1 hb1)
    have B1 := hide (two_below w 1 hb1)
    have lt1 : w.heap.size + 1 < w1.heap.size := (unhide HR).b.lt
    have n1 : ¬ w1.heap.size = w.heap.size := by omega
    have n2 : ¬ w1.heap.size = w.heap.size + 1 := by omega
    have ba := bAl (Below.refl w1.heap.size w1) (.cells #[.int .i64 x, .int .i64 n, .string t, .string y] 23)
    have HR2 := hide ((unhide HR).keep ba)
    have RA := hide (RowIs.new w1 #[.int .i64 x, .int .i64 n, .string t, .string y] 23)
    have B2 := hide (bTr (unhide B1) ba)
    clear hb1 q1 ba HR B1
    iterate 20 (try (first | go_values | go_skip | go_guarded | go_step | go_upon | go_simp))
    obtain ⟨W2, hW2⟩ : ∃ W2, W2 = w1.alloc (.cells #[.int .i64 x, .int .i64 n, .string t, .string y] 23) := ⟨_, rfl⟩
    rw [← hW2] at HR2 RA B2 ⊢
    clear hW2
    obtain ⟨A1, hA1⟩ : ∃ A1, A1 = w1.heap.size := ⟨_, rfl⟩
    rw [← hA1] at RA n1 n2 lt1 ⊢
    clear hA1 lt1
    have b1 := (unhide HR2).b.at (o := 1) (v := .int .i64 0) rfl
    have b2 := (unhide HR2).b.at (o := 2) (v := .int .i64 0) rfl
    have b3 := (unhide HR2).b.at (o := 3) (v := .string ⟨#[]⟩) rfl
    have b4 := (unhide HR2).b.at (o := 4) (v := .string ⟨#[]⟩) rfl
    have h1 := (unhide HR2).b.froz 1
    have h2 := (unhide HR2).b.froz 2
    have h3 := (unhide HR2).b.froz 3
    have h4 := (unhide HR2).b.froz 4
    have x0 := (unhide RA).at (o := 0) (v := .int .i64 x) rfl
    have x1 := (unhide RA).at (o := 1) (v := .int .i64 n) rfl
    have x2 := (unhide RA).at (o := 2) (v := .string t) rfl
    have x3 := (unhide RA).at (o := 3) (v := .string y) rfl
    iterate 14 (try (first | go_values | go_skip | go_guarded | go_step | go_upon | go_simp))
    obtain ⟨W3, hW3⟩ : ∃ W3, W3 = (((W2.setCell ⟨w.heap.size + 1, 1, none⟩ (.int .i64 x)).setCell ⟨w.heap.size + 1, 2, none⟩ (.int .i64 n)).setCell ⟨w.heap.size + 1, 3, none⟩ (.string t)).setCell ⟨w.heap.size + 1, 4, none⟩ (.string y) := ⟨_, rfl⟩
    have RB := hide (row_set4 (unhide HR2).b (.int .i64 x) (.int .i64 n) (.string t) (.string y))
    have RR := hide (((((unhide HR2).r.setOther (o' := 1) (.int .i64 x) (show w.heap.size ≠ w.heap.size + 1 by omega)).setOther (o' := 2) (.int .i64 n) (show w.heap.size ≠ w.heap.size + 1 by omega)).setOther (o' := 3) (.string t) (show w.heap.size ≠ w.heap.size + 1 by omega)).setOther (o' := 4) (.string y) (show w.heap.size ≠ w.heap.size + 1 by omega))
    have B3 := hide (below_set (o := 4) (v := .string y) (below_set (o := 3) (v := .string t) (below_set (o := 2) (v := .int .i64 n) (below_set (o := 1) (v := .int .i64 x) (unhide B2) (show w.heap.size ≤ w.heap.size + 1 by omega)) (show w.heap.size ≤ w.heap.size + 1 by omega)) (show w.heap.size ≤ w.heap.size + 1 by omega)) (show w.heap.size ≤ w.heap.size + 1 by omega))
    rw [← hW3] at RB RR B3 ⊢
    clear hW3 b1 b2 b3 b4 h1 h2 h3 h4 x0 x1 x2 x3 RA HR2 B2 n1 n2
    have d0 := ((unhide RR)).at (o := 0) (v := .int .i64 0) rfl
    have d1 := ((unhide RR)).at (o := 1) (v := .int .i64 0) rfl
    have d2 := ((unhide RR)).at (o := 2) (v := .int .i64 0) rfl
    have d3 := ((unhide RR)).at (o := 3) (v := .string ⟨#[]⟩) rfl
    have d4 := ((unhide RR)).at (o := 4) (v := .string ⟨#[]⟩) rfl
    have d5 := ((unhide RR)).at (o := 5) (v := .slice none 0 0) rfl
    have d6 := ((unhide RR)).at (o := 6) (v := .slice none 0 0) rfl
    have f0 := ((unhide RR)).froz 0
    have f1 := ((unhide RR)).froz 1
    have f2 := ((unhide RR)).froz 2
    have f3 := ((unhide RR)).froz 3
    have f4 := ((unhide RR)).froz 4
    have f5 := ((unhide RR)).froz 5
    have f6 := ((unhide RR)).froz 6
    cases ok with
    | true =>
      have ai := hide (vis_atom ha (unhide hno))
      clear ha
      have b0 := ((unhide RB)).at (o := 0) (v := .int .i64 1) rfl
      have b1 := ((unhide RB)).at (o := 1) (v := .int .i64 x) rfl
      have b2 := ((unhide RB)).at (o := 2) (v := .int .i64 n) rfl
      have b3 := ((unhide RB)).at (o := 3) (v := .string t) rfl
      have b4 := ((unhide RB)).at (o := 4) (v := .string y) rfl
      have b5 := ((unhide RB)).at (o := 5) (v := .slice none 0 0) rfl
      have b6 := ((unhide RB)).at (o := 6) (v := .slice none 0 0) rfl
      go_wp2_with fail
      refine bodyPost_ret (v := .tuple #[VRet ⟨1, ⟨x, n, t, y⟩, [], []⟩ (.slice none 0 0) (.slice none 0 0), .bool true]) (by simp [results, Tryz.results8, go_sem, VRet, d0, d1, d2, d3, d4, d5, d6]) rfl ⟨⟨_, _, _, _, rfl, VOwn.nil _ _ _ _, ai⟩, below_set7 (unhide B3) (Nat.le_refl _)⟩
    | false =>
      have ai := hide (vno_atom ha (unhide hno))
      clear ha
      go_wp2_with fail
      refine bodyPost_ret (v := .tuple #[VRet zVal (.slice none 0 0) (.slice none 0 0), .bool false]) (by simp [results, Tryz.results8, go_sem, VRet, d0, d1, d2, d3, d4, d5, d6]) rfl ⟨⟨_, _, _, _, rfl, zval_own _ _, ai⟩, below_set7 (unhide B3) (Nat.le_refl _)⟩
  · have g2 : decide ((s.size : Int) < 2) = false := by simp; omega
    obtain ⟨c, hcc⟩ : ∃ c, s[0] = c := ⟨_, rfl⟩
    rw [hcc] at n
    obtain ⟨n91, n123⟩ := n
    have e91 : ((c.toNat : Int) == 91) = decide (c = 91) := u8_is (n := 91) (by decide)
    have e123 : ((c.toNat : Int) == 123) = decide (c = 123) := u8_is (n := 123) (by decide)
    have m91 : ¬ (c.toNat : Int) = 91 := (fun e => n91 (UInt8.toNat_inj.1 (show c.toNat = 91 by omega)))
    have m123 : ¬ (c.toNat : Int) = 123 := (fun e => n123 (UInt8.toNat_inj.1 (show c.toNat = 123 by omega)))
    rw [decide_eq_false n91] at e91
    rw [decide_eq_false n123] at e123
    have k91 : ((c.toNat : Int) != 91) = true := by simpa using m91
    have k123 : ((c.toNat : Int) != 123) = true := by simpa using m123
    clear hc key n91 n123
    go_wp2_with fail
    refine (unhide q1 _).mono ?_
    rintro e w1 ⟨⟨x, n, t, y, ok, rfl, ha⟩, hb1⟩
    have HR := hide (two_new w 1 hb1)
    have B1 := hide (two_below w 1 hb1)
    have lt1 : w.heap.size + 1 < w1.heap.size := (unhide HR).b.lt
    have n1 : ¬ w1.heap.size = w.heap.size := by omega
    have n2 : ¬ w1.heap.size = w.heap.size + 1 := by omega
    have ba := bAl (Below.refl w1.heap.size w1) (.cells #[.int .i64 x, .int .i64 n, .string t, .string y] 23)
    have HR2 := hide ((unhide HR).keep ba)
    have RA := hide (RowIs.new w1 #[.int .i64 x, .int .i64 n, .string t, .string y] 23)
    have B2 := hide (bTr (unhide B1) ba)
    clear hb1 q1 ba HR B1
    iterate 20 (try (first | go_values | go_skip | go_guarded | go_step | go_upon | go_simp))
    obtain ⟨W2, hW2⟩ : ∃ W2, W2 = w1.alloc (.cells #[.int .i64 x, .int .i64 n, .string t, .string y] 23) := ⟨_, rfl⟩
    rw [← hW2] at HR2 RA B2 ⊢
    clear hW2
    obtain ⟨A1, hA1⟩ : ∃ A1, A1 = w1.heap.size := ⟨_, rfl⟩
    rw [← hA1] at RA n1 n2 lt1 ⊢
    clear hA1 lt1
    have b1 := (unhide HR2).b.at (o := 1) (v := .int .i64 0) rfl
    have b2 := (unhide HR2).b.at (o := 2) (v := .int .i64 0) rfl
    have b3 := (unhide HR2).b.at (o := 3) (v := .string ⟨#[]⟩) rfl
    have b4 := (unhide HR2).b.at (o := 4) (v := .string ⟨#[]⟩) rfl
    have h1 := (unhide HR2).b.froz 1
    have h2 := (unhide HR2).b.froz 2
    have h3 := (unhide HR2).b.froz 3
    have h4 := (unhide HR2).b.froz 4
    have x0 := (unhide RA).at (o := 0) (v := .int .i64 x) rfl
    have x1 := (unhide RA).at (o := 1) (v := .int .i64 n) rfl
    have x2 := (unhide RA).at (o := 2) (v := .string t) rfl
    have x3 := (unhide RA).at (o := 3) (v := .string y) rfl
    iterate 14 (try (first | go_values | go_skip | go_guarded | go_step | go_upon | go_simp))
    obtain ⟨W3, hW3⟩ : ∃ W3, W3 = (((W2.setCell ⟨w.heap.size + 1, 1, none⟩ (.int .i64 x)).setCell ⟨w.heap.size + 1, 2, none⟩ (.int .i64 n)).setCell ⟨w.heap.size + 1, 3, none⟩ (.string t)).setCell ⟨w.heap.size + 1, 4, none⟩ (.string y) := ⟨_, rfl⟩
    have RB := hide (row_set4 (unhide HR2).b (.int .i64 x) (.int .i64 n) (.string t) (.string y))
    have RR := hide (((((unhide HR2).r.setOther (o' := 1) (.int .i64 x) (show w.heap.size ≠ w.heap.size + 1 by omega)).setOther (o' := 2) (.int .i64 n) (show w.heap.size ≠ w.heap.size + 1 by omega)).setOther (o' := 3) (.string t) (show w.heap.size ≠ w.heap.size + 1 by omega)).setOther (o' := 4) (.string y) (show w.heap.size ≠ w.heap.size + 1 by omega))
    have B3 := hide (below_set (o := 4) (v := .string y) (below_set (o := 3) (v := .string t) (below_set (o := 2) (v := .int .i64 n) (below_set (o := 1) (v := .int .i64 x) (unhide B2) (show w.heap.size ≤ w.heap.size + 1 by omega)) (show w.heap.size ≤ w.heap.size + 1 by omega)) (show w.heap.size ≤ w.heap.size + 1 by omega)) (show w.heap.size ≤ w.heap.size + 1 by omega))
    rw [← hW3] at RB RR B3 ⊢
    clear hW3 b1 b2 b3 b4 h1 h2 h3 h4 x0 x1 x2 x3 RA HR2 B2 n1 n2
    have d0 := ((unhide RR)).at (o := 0) (v := .int .i64 0) rfl
    have d1 := ((unhide RR)).at (o := 1) (v := .int .i64 0) rfl
    have d2 := ((unhide RR)).at (o := 2) (v := .int .i64 0) rfl
    have d3 := ((unhide RR)).at (o := 3) (v := .string ⟨#[]⟩) rfl
    have d4 := ((unhide RR)).at (o := 4) (v := .string ⟨#[]⟩) rfl
    have d5 := ((unhide RR)).at (o := 5) (v := .slice none 0 0) rfl
    have d6 := ((unhide RR)).at (o := 6) (v := .slice none 0 0) rfl
    have f0 := ((unhide RR)).froz 0
    have f1 := ((unhide RR)).froz 1
    have f2 := ((unhide RR)).froz 2
    have f3 := ((unhide RR)).froz 3
    have f4 := ((unhide RR)).froz 4
    have f5 := ((unhide RR)).froz 5
    have f6 := ((unhide RR)).froz 6
    cases ok with
    | true =>
      have ai := hide (vis_atom ha (unhide hno))
      clear ha
      have b0 := ((unhide RB)).at (o := 0) (v := .int .i64 1) rfl
      have b1 := ((unhide RB)).at (o := 1) (v := .int .i64 x) rfl
      have b2 := ((unhide RB)).at (o := 2) (v := .int .i64 n) rfl
      have b3 := ((unhide RB)).at (o := 3) (v := .string t) rfl
      have b4 := ((unhide RB)).at (o := 4) (v := .string y) rfl
      have b5 := ((unhide RB)).at (o := 5) (v := .slice none 0 0) rfl
      have b6 := ((unhide RB)).at (o := 6) (v := .slice none 0 0) rfl
      go_wp2_with fail
      refine bodyPost_ret (v := .tuple #[VRet ⟨1, ⟨x, n, t, y⟩, [], []⟩ (.slice none 0 0) (.slice none 0 0), .bool true]) (by simp [results, Tryz.results8, go_sem, VRet, d0, d1, d2, d3, d4, d5, d6]) rfl ⟨⟨_, _, _, _, rfl, VOwn.nil _ _ _ _, ai⟩, below_set7 (unhide B3) (Nat.le_refl _)⟩
    | false =>
      have ai := hide (vno_atom ha (unhide hno))
      clear ha
      go_wp2_with fail
      refine bodyPost_ret (v := .tuple #[VRet zVal (.slice none 0 0) (.slice none 0 0), .bool false]) (by simp [results, Tryz.results8, go_sem, VRet, d0, d1, d2, d3, d4, d5, d6]) rfl ⟨⟨_, _, _, _, rfl, zval_own _ _, ai⟩, below_set7 (unhide B3) (Nat.le_refl _)⟩
end Go.Proofs.YtijfgfdagfchiaaGreatDoor.V
/- spec.ReadValue: sets. -/
namespace Go.Proofs.YtijfgfdagfchiaaGreatDoor.V
open Go.RowKit
set_option maxRecDepth 20000

theorem mid_ext (s : ByteArray) : (s.extract 1 (s.size - 1)).data.toList = midL s.data.toList := by
  rw [mid_bytes]
  unfold midL
  show (s.data.toList.drop 1).take (s.size - 1 - 1) = _
  have : s.data.toList.length = s.size := by simp
  rw [this]; congr 1

set_option maxHeartbeats 4000000 in
theorem sReadValue_set (s : ByteArray) (w : World) (hs : s.size ≤ 60000) (h2 : 2 ≤ s.size) (hc : s[0] = 91) :
    Calls Tryz.prog 8 #[.string s] w fun e w' => VRdRet s.data.toList w.heap.size e w' ∧ Below w.heap.size w w' := by
  have zl : s.data.toList.length = s.size := by simp
  have HX := hide (show ∃ r, s.data.toList = 91 :: r from ⟨_, by have := list_cons (s := s) (by omega); rw [hc] at this; exact this⟩)
  have g6 : decide (60000 < (s.size : Int)) = false := by simp; omega
  have g2 : decide ((s.size : Int) < 2) = false := by simp; omega
  have k91 : (((91 : UInt8).toNat : Int) != 91) = false := by decide
  have zX : (s.extract 1 (s.size - 1)).size ≤ 1048576 := by rw [ByteArray.size_extract]; omega
  have q1 := hide (fun w => l1Parts_any (s.extract 1 (s.size - 1)) w zX)
  rw [mid_ext s] at q1
  obtain ⟨i0, hi, hz0, hz1, hz2⟩ := info_parts info_atom
  have ml : (midL s.data.toList).length ≤ s.size := by unfold midL; rw [List.length_take, List.length_drop]; omega
  go_enter Tryz.func8, Tryz.ntmps8
  go_wp2_with fail
  refine (unhide q1 _).mono ?_
  rintro e w1 ⟨⟨v, R, rfl, hown, hit⟩, hb1⟩
  have HR := hide (two_new w 2 hb1)
  have B1 := hide (two_below w 2 hb1)
  have hbs := hide hown
  obtain ⟨av, cv, ev⟩ := own_sl hown
  subst ev
  clear hown hb1 q1
  have hRl : R.length ≤ 60001 := by have := (unhide hit).len; omega
  have lt1 : w.heap.size + 1 < w1.heap.size := (unhide HR).b.lt
  go_wp2_with fail
  go_loopw [53] (fun i w' => ∃ (k : Nat) (I : List AtomT) (v1 : Value), k ≤ R.length ∧ i = .int .i64 k ∧ I.length = k ∧ w1.heap.size ≤ w'.heap.size ∧ Hid (Two w w' 2 v1 (.slice none 0 0)) ∧ Hid (w'.ownsRow w1.heap.size 23 4 v1 k (atomsV I)) ∧ Hid (Below w.heap.size w w') ∧ Hid (w'.ownsRow (w.heap.size + 1 + 1) 9 1 (.slice av R.length cv) R.length (strsV R)) ∧ Hid (RdOf R I)) (fun i _ => R.length - (intOf i).toNat)
  case atStart => exact ⟨0, [], _, by omega, rfl, rfl, Nat.le_refl _, HR, hide (World.ownsRow_nil _ _ _ _), B1, hide (by simpa using unhide hbs), hide (RdOf.nil R)⟩
  case round =>
    obtain ⟨k, I, v1, hk, rfl, hI, hw1, hR, hown, hb, hrow, hrd⟩ := hrel
    by_cases hlt : k < R.length
    · rcases (unhide hrow).2 with ⟨_, e2⟩ | ⟨g, cap, cur, hv, hgb, hgc, hn1, hn2, hcs, htk⟩
      · omega
      obtain ⟨p, hp⟩ : ∃ p, R[k] = p := ⟨_, rfl⟩
      have ck : wr.cell? ⟨g, k, none⟩ = some (.string ⟨p.toArray⟩) := by rw [← hp]; exact own_cell hgc htk k hlt
      injection hv with hv1 hv2 hv3
      subst hv1 hv3
      have zp : p.length ≤ s.size := by
        have := (unhide hit).each p (by rw [← hp]; exact List.getElem_mem _)
        omega
      have q2 := hide (fun w => sReadAtom_any ⟨p.toArray⟩ w (by rw [sz_arr]; omega))
      have stp := hide (fun (a : AtomT) (ok : Bool) (ha : AtmIs p a.x a.n a.t a.y ok) => (unhide hrd).step (by omega) (by simp only [hI]; exact hp) ha)
      have bad := hide (fun (x n : Int) (t y : ByteArray) (ha : AtmIs p x n t y false) => set_bad (unhide hit) hlt (unhide HX) (by rw [hp]; exact ha))
      have ck0 := (unhide hR).b.at (o := 0) (v := .int .i64 2) rfl
      clear hgc htk hcs hrd hp
      go_wp2_with fail
      refine (unhide q2 _).mono ?_
      rintro e w2 ⟨⟨x, n, t, y, ok, rfl, ha⟩, hb2⟩
      have l1 := hide (own_keepT (unhide hown) hb2).lt
      have ba := bAl (Below.refl w2.heap.size w2) (.cells #[.int .i64 x, .int .i64 n, .string t, .string y] 23)
      have R3 := hide (((unhide hR).keep hb2).keep ba)
      have O3 := hide ((own_keepT (unhide hown) hb2).alloc (.cells #[.int .i64 x, .int .i64 n, .string t, .string y] 23))
      have S3 := hide ((own_keepT (unhide hrow) hb2).alloc (.cells #[.int .i64 x, .int .i64 n, .string t, .string y] 23))
      have B3 := hide (bTr (bTr (unhide hb) hb2) ba)
      have RA := hide (RowIs.new w2 #[.int .i64 x, .int .i64 n, .string t, .string y] 23)
      have b3 : wr.heap.size ≤ w2.heap.size := hb2.size
      clear hb2 q2 ck ba hR hown hrow hb ck0
      iterate 20 (try (first | go_values | go_skip | go_guarded | go_step | go_upon | go_simp))
      obtain ⟨W2, hW2⟩ : ∃ W2, W2 = w2.alloc (.cells #[.int .i64 x, .int .i64 n, .string t, .string y] 23) := ⟨_, rfl⟩
      have sz2 : w2.heap.size + 1 = W2.heap.size := by rw [hW2]; simp
      rw [← hW2] at R3 O3 S3 B3 RA ⊢
      clear hW2
      cases ok with
      | false =>
        have ai := hide (unhide bad _ _ _ _ ha)
        clear ha bad stp
        have d0 := ((unhide R3).r).at (o := 0) (v := .int .i64 0) rfl
        have d1 := ((unhide R3).r).at (o := 1) (v := .int .i64 0) rfl
        have d2 := ((unhide R3).r).at (o := 2) (v := .int .i64 0) rfl
        have d3 := ((unhide R3).r).at (o := 3) (v := .string ⟨#[]⟩) rfl
        have d4 := ((unhide R3).r).at (o := 4) (v := .string ⟨#[]⟩) rfl
        have d5 := ((unhide R3).r).at (o := 5) (v := .slice none 0 0) rfl
        have d6 := ((unhide R3).r).at (o := 6) (v := .slice none 0 0) rfl
        have f0 := ((unhide R3).r).froz 0
        have f1 := ((unhide R3).r).froz 1
        have f2 := ((unhide R3).r).froz 2
        have f3 := ((unhide R3).r).froz 3
        have f4 := ((unhide R3).r).froz 4
        have f5 := ((unhide R3).r).froz 5
        have f6 := ((unhide R3).r).froz 6
        go_wp2_with fail
        refine bodyPost_ret (v := .tuple #[VRet zVal (.slice none 0 0) (.slice none 0 0), .bool false]) (by simp [results, Tryz.results8, go_sem, VRet, d0, d1, d2, d3, d4, d5, d6]) rfl ⟨⟨_, _, _, _, rfl, zval_own _ _, ai⟩, below_set7 (unhide B3) (Nat.le_refl _)⟩
      | true =>
        have rd4 := hide (unhide stp ⟨x, n, t, y⟩ true ha)
        obtain ⟨a1, c1, e1⟩ := own_sl (unhide O3)
        subst e1
        have c5 := (unhide R3).b.at (o := 5) (v := .slice a1 k c1) rfl
        have f5 := (unhide R3).b.froz 5
        have x0 := (unhide RA).at (o := 0) (v := .int .i64 x) rfl
        have x1 := (unhide RA).at (o := 1) (v := .int .i64 n) rfl
        have x2 := (unhide RA).at (o := 2) (v := .string t) rfl
        have x3 := (unhide RA).at (o := 3) (v := .string y) rfl
        clear ha bad stp
        have t1 := hide ((unhide O3).alloc (.cells #[.int .i64 x, .int .i64 n, .string t, .string y] 23))
        have t2 := hide (cell_four_new W2 (cellsA ⟨x, n, t, y⟩) 23)
        have T3 := hide (show ∀ u ∈ cellsA ⟨x, n, t, y⟩, u.oneCell' = true from fun u hu => by simp [cellsA] at hu; rcases hu with rfl | rfl | rfl | rfl <;> rfl)
        have T4 := hide (show w1.heap.size ≤ (W2.alloc (.cells #[.int .i64 x, .int .i64 n, .string t, .string y] 23)).heap.size by simp; omega)
        have t5 : (k + 1) * 48 ≤ 140737488355328 := by omega
        go_wp2_with (at_builtin; refine wpList_append_own_at _ rfl _ _ 28 rfl w1.heap.size 23 i0 _ 4 48 Tryz.underlying28 hi hz0 hz1 hz2 rfl (by decide) _ _ _ rfl (unhide t1) ⟨_, 0, none⟩ 1 1 (cellsA ⟨x, n, t, y⟩) rfl rfl (unhide t2) (unhide T3) (by unfold maxLen; omega) t5 (unhide T4) ?_; intro v3 w3 hown3 hgrow3 _ hat3; obtain ⟨av3, cv3, ev3⟩ := own_sl hown3; subst ev3; have ne1 : ∀ g, (Value.slice a1 k c1).ownBlock = some g → w.heap.size + 1 < g := (fun g e => by have := ((unhide O3).lt g e).1; omega); have R4 := hide ((((unhide R3).keep (bAl (Below.refl _ _) (.cells #[.int .i64 x, .int .i64 n, .string t, .string y] 23))).grown hgrow3 ne1)); have d5 := (unhide R4).b.at (o := 5) (v := .slice a1 k c1) rfl; have h5 := (unhide R4).b.froz 5)
        have gl : g < w1.heap.size := ((unhide hbs).lt g rfl).2
        have sz3 : W2.heap.size ≤ w3.heap.size := by have := hgrow3.size; simp at this; omega
        refine ⟨⟨k + 1, I ++ [⟨x, n, t, y⟩], _, by omega, by simp, by simp [hI], by simp [World.setCell]; omega, hide ((unhide R4).set1 _), hide ?_, hide ?_, hide ?_, rd4⟩, by simp [intOf]; omega⟩
        · rw [atomsV_snoc]
          exact own_set hown3 (fun g' e => by have := (hown3.lt g' e).1; omega)
        · exact below_set ((bAl (unhide B3) _).grown hgrow3 (by have := (unhide B3).size; simp; omega) (fun j hj => by have := ne1 j hj; omega)) (by omega)
        · refine own_set (((unhide S3).alloc _).kept hgrow3 (.inr (fun e => ?_))) (fun g' e => ?_)
          · have := ((unhide O3).lt g e.symm).1
            omega
          · have := ((unhide S3).lt g' e).1
            omega
    · have ek : k = R.length := by omega
      have gu := hide (set_guess (unhide hit) (unhide hrd) (by omega) (unhide HX))
      obtain ⟨T, hcall, hT⟩ := vtext ⟨2, zA, I, []⟩ (unhide gu).ok
      obtain ⟨a5, c5, e5⟩ := own_sl (unhide hown)
      subst e5
      have q5 := hide (hcall a5 none k c5 0 0 wr (sla_own (unhide hown)) ⟨rfl, .inl rfl⟩)
      have ve := hide (vis_end (s := s) (by omega) (unhide gu) hT)
      clear hcall hT hrd ek gu
      have OW := hide (show VOwn wr w1.heap.size ⟨2, zA, I, []⟩ (.slice a5 k c5) (.slice none 0 0) from ⟨by rw [show (⟨2, zA, I, []⟩ : ValT).items.length = k from hI]; exact unhide hown, World.ownsRow_nil _ _ _ _, fun g _ h => by cases h⟩)
      have j0 := ((unhide hR).b).at (o := 0) (v := .int .i64 2) rfl
      have j1 := ((unhide hR).b).at (o := 1) (v := .int .i64 0) rfl
      have j2 := ((unhide hR).b).at (o := 2) (v := .int .i64 0) rfl
      have j3 := ((unhide hR).b).at (o := 3) (v := .string ⟨#[]⟩) rfl
      have j4 := ((unhide hR).b).at (o := 4) (v := .string ⟨#[]⟩) rfl
      have j5 := ((unhide hR).b).at (o := 5) (v := .slice a5 k c5) rfl
      have j6 := ((unhide hR).b).at (o := 6) (v := .slice none 0 0) rfl
      go_wp2_with fail
      refine (unhide q5).mono ?_
      rintro e w5 ⟨rfl, hb5⟩
      replace OW := hide ((unhide OW).keep hb5)
      have R5 := hide ((unhide hR).keep hb5)
      have B5 := hide (bTr (unhide hb) hb5)
      clear hb5 q5 j0 j1 j2 j3 j4 j5 j6 hR hb hown
      by_cases hx : T = s
      · have ai := hide ((unhide ve).1 hx)
        have hx2 : (T.toList == s.toList) = true := by rw [hx]; simp
        clear hx ve
        have d0 := ((unhide R5).r).at (o := 0) (v := .int .i64 0) rfl
        have d1 := ((unhide R5).r).at (o := 1) (v := .int .i64 0) rfl
        have d2 := ((unhide R5).r).at (o := 2) (v := .int .i64 0) rfl
        have d3 := ((unhide R5).r).at (o := 3) (v := .string ⟨#[]⟩) rfl
        have d4 := ((unhide R5).r).at (o := 4) (v := .string ⟨#[]⟩) rfl
        have d5 := ((unhide R5).r).at (o := 5) (v := .slice none 0 0) rfl
        have d6 := ((unhide R5).r).at (o := 6) (v := .slice none 0 0) rfl
        have f0 := ((unhide R5).r).froz 0
        have f1 := ((unhide R5).r).froz 1
        have f2 := ((unhide R5).r).froz 2
        have f3 := ((unhide R5).r).froz 3
        have f4 := ((unhide R5).r).froz 4
        have f5 := ((unhide R5).r).froz 5
        have f6 := ((unhide R5).r).froz 6
        have j0 := ((unhide R5).b).at (o := 0) (v := .int .i64 2) rfl
        have j1 := ((unhide R5).b).at (o := 1) (v := .int .i64 0) rfl
        have j2 := ((unhide R5).b).at (o := 2) (v := .int .i64 0) rfl
        have j3 := ((unhide R5).b).at (o := 3) (v := .string ⟨#[]⟩) rfl
        have j4 := ((unhide R5).b).at (o := 4) (v := .string ⟨#[]⟩) rfl
        have j5 := ((unhide R5).b).at (o := 5) (v := .slice a5 k c5) rfl
        have j6 := ((unhide R5).b).at (o := 6) (v := .slice none 0 0) rfl
        go_wp2_with fail
        refine bodyPost_ret (v := .tuple #[VRet ⟨2, zA, I, []⟩ (.slice a5 k c5) (.slice none 0 0), .bool true]) (by simp [results, Tryz.results8, go_sem, VRet, d0, d1, d2, d3, d4, d5, d6]) rfl ⟨⟨_, _, _, _, rfl, (unhide OW).set7 (by omega) (by omega), ai⟩, below_set7 (unhide B5) (Nat.le_refl _)⟩
      · have ai := hide ((unhide ve).2 hx)
        have hx2 : (T.toList == s.toList) = false := by simpa using str_neq hx
        clear hx ve
        have d0 := ((unhide R5).r).at (o := 0) (v := .int .i64 0) rfl
        have d1 := ((unhide R5).r).at (o := 1) (v := .int .i64 0) rfl
        have d2 := ((unhide R5).r).at (o := 2) (v := .int .i64 0) rfl
        have d3 := ((unhide R5).r).at (o := 3) (v := .string ⟨#[]⟩) rfl
        have d4 := ((unhide R5).r).at (o := 4) (v := .string ⟨#[]⟩) rfl
        have d5 := ((unhide R5).r).at (o := 5) (v := .slice none 0 0) rfl
        have d6 := ((unhide R5).r).at (o := 6) (v := .slice none 0 0) rfl
        have f0 := ((unhide R5).r).froz 0
        have f1 := ((unhide R5).r).froz 1
        have f2 := ((unhide R5).r).froz 2
        have f3 := ((unhide R5).r).froz 3
        have f4 := ((unhide R5).r).froz 4
        have f5 := ((unhide R5).r).froz 5
        have f6 := ((unhide R5).r).froz 6
        go_wp2_with fail
        refine bodyPost_ret (v := .tuple #[VRet zVal (.slice none 0 0) (.slice none 0 0), .bool false]) (by simp [results, Tryz.results8, go_sem, VRet, d0, d1, d2, d3, d4, d5, d6]) rfl ⟨⟨_, _, _, _, rfl, zval_own _ _, ai⟩, below_set7 (unhide B5) (Nat.le_refl _)⟩
end Go.Proofs.YtijfgfdagfchiaaGreatDoor.V
/- spec.ReadValue: records. -/
namespace Go.Proofs.YtijfgfdagfchiaaGreatDoor.V
open Go.RowKit
set_option maxRecDepth 20000

theorem cut_at {p : List UInt8} {j : Nat} (hj : j < p.length) (h : p[j] = 58) (hn : (58 : UInt8) ∉ p.take j) : cutC 58 p = (p.take j, p.drop (j + 1)) := by
  have e : p = p.take j ++ 58 :: p.drop (j + 1) := by
    have := List.take_append_drop j p
    rw [List.drop_eq_getElem_cons hj, h] at this
    exact this.symm
  have h2 := cutC_app 58 (p.take j) (p.drop (j + 1)) hn
  rw [← e] at h2
  exact h2
theorem take_no {p : List UInt8} {j : Nat} (hj : j < p.length) (h : ¬ p[j] = 58) (hn : (58 : UInt8) ∉ p.take j) : (58 : UInt8) ∉ p.take (j + 1) := by
  rw [List.take_succ_eq_append_getElem hj, List.mem_append, List.mem_singleton]
  rintro (h2 | h2)
  · exact hn h2
  · exact h h2.symm

theorem bDrw {w : World} {o : Obj} (h : Below w.heap.size w (w.alloc o)) : Below w.heap.size w (w.drew.alloc o) := ⟨h.os, h.tape, h.output, h.size, h.block⟩

set_option maxHeartbeats 8000000 in
theorem sReadValue_rec (s : ByteArray) (w : World) (hs : s.size ≤ 60000) (h2 : 2 ≤ s.size) (hc : s[0] = 123) :
    Calls Tryz.prog 8 #[.string s] w fun e w' => VRdRet s.data.toList w.heap.size e w' ∧ Below w.heap.size w w' := by
  have zl : s.data.toList.length = s.size := by simp
  have HX := hide (show ∃ r, s.data.toList = 123 :: r from ⟨_, by have := list_cons (s := s) (by omega); rw [hc] at this; exact this⟩)
  have g6 : decide (60000 < (s.size : Int)) = false := by simp; omega
  have g2 : decide ((s.size : Int) < 2) = false := by simp; omega
  have k91 : (((123 : UInt8).toNat : Int) != 91) = true := by decide
  have k123 : (((123 : UInt8).toNat : Int) != 123) = false := by decide
  have zX : (s.extract 1 (s.size - 1)).size ≤ 1048576 := by rw [ByteArray.size_extract]; omega
  have q1 := hide (fun w => l1Parts_any (s.extract 1 (s.size - 1)) w zX)
  rw [mid_ext s] at q1
  obtain ⟨i0, hi, hz0, hz1, hz2⟩ := info_parts info_atom
  obtain ⟨i1, gi, gz0, gz1, gz2⟩ := info_parts info_str
  have ml : (midL s.data.toList).length ≤ s.size := by unfold midL; rw [List.length_take, List.length_drop]; omega
  go_enter Tryz.func8, Tryz.ntmps8
  go_wp2_with fail
  refine (unhide q1 _).mono ?_
  rintro e w1 ⟨⟨v, R, rfl, hown, hit⟩, hb1⟩
  have HR := hide (two_new w 3 hb1)
  have B1 := hide (two_below w 3 hb1)
  have hbs := hide hown
  obtain ⟨av, cv, ev⟩ := own_sl hown
  subst ev
  clear hown hb1 q1
  have hRl : R.length ≤ 60001 := by have := (unhide hit).len; omega
  have lt1 : w.heap.size + 1 < w1.heap.size := (unhide HR).b.lt
  go_wp2_with fail
  go_loopw [53] (fun i w' => ∃ (k : Nat) (I : List AtomT) (N : List (List UInt8)) (v1 v2 : Value), k ≤ R.length ∧ i = .int .i64 k ∧ I.length = k ∧ N.length = k ∧ w1.heap.size ≤ w'.heap.size ∧ Hid (Two w w' 3 v1 v2) ∧ Hid (w'.ownsRow w1.heap.size 23 4 v1 k (atomsV I)) ∧ Hid (w'.ownsRow w1.heap.size 9 1 v2 k (strsV N)) ∧ Hid (∀ g, v1.ownBlock = some g → v2.ownBlock ≠ some g) ∧ Hid (Below w.heap.size w w') ∧ Hid (w'.ownsRow (w.heap.size + 1 + 1) 9 1 (.slice av R.length cv) R.length (strsV R)) ∧ Hid (RdRec R N I)) (fun i _ => R.length - (intOf i).toNat)
  case atStart => exact ⟨0, [], [], _, _, by omega, rfl, rfl, rfl, Nat.le_refl _, HR, hide (World.ownsRow_nil _ _ _ _), hide (World.ownsRow_nil _ _ _ _), hide (fun g h => by cases h), B1, hide (by simpa using unhide hbs), hide (RdRec.nil R)⟩
  case round =>
    obtain ⟨k, I, N, v1, v2, hk, rfl, hI, hN, hw1, hR, hown, hownN, hdj, hb, hrow, hrd⟩ := hrel
    by_cases hlt : k < R.length
    · rcases (unhide hrow).2 with ⟨_, e2⟩ | ⟨g, cap, cur, hv, hgb, hgc, hn1, hn2, hcs, htk⟩
      · omega
      obtain ⟨p, hp⟩ : ∃ p, R[k] = p := ⟨_, rfl⟩
      have ck : wr.cell? ⟨g, k, none⟩ = some (.string ⟨p.toArray⟩) := by rw [← hp]; exact own_cell hgc htk k hlt
      injection hv with hv1 hv2 hv3
      subst hv1 hv3
      have zp : p.length ≤ s.size := by
        have := (unhide hit).each p (by rw [← hp]; exact List.getElem_mem _)
        omega
      have stp := hide (fun (a : AtomT) (ok : Bool) (ha : AtmIs (cutC 58 p).2 a.x a.n a.t a.y ok) => (unhide hrd).step (by omega) (by simp only [hI]; exact hp) ha)
      have bad := hide (fun (x n : Int) (t y : ByteArray) (ha : AtmIs (cutC 58 p).2 x n t y false) => rec_bad (unhide hit) hlt (unhide HX) (by rw [hp]; exact ha))
      have non := hide (fun (h : (58 : UInt8) ∉ p) => rec_none (unhide hit) hlt (unhide HX) (by rw [hp]; exact h))
      have ck0 := (unhide hR).b.at (o := 0) (v := .int .i64 3) rfl
      have sp : (⟨p.toArray⟩ : ByteArray).size = p.length := sz_arr p
      have lp : (⟨p.toArray⟩ : ByteArray).data.toList = p := rfl
      obtain ⟨Pb, hPb⟩ : ∃ Pb : ByteArray, Pb = ⟨p.toArray⟩ := ⟨_, rfl⟩
      rw [← hPb] at ck sp lp
      clear hgc htk hcs hrd hp hPb
      obtain ⟨W1, hW1⟩ : ∃ W1, W1 = wr := ⟨_, rfl⟩
      subst hW1
      go_wp2_with fail
      go_loopw [10] (fun i w' => ∃ j : Nat, j ≤ p.length ∧ i = .int .i64 j ∧ w' = W1 ∧ Hid ((58 : UInt8) ∉ p.take j)) (fun i _ => p.length - (intOf i).toNat)
      case atStart => exact ⟨0, by omega, rfl, rfl, hide (by simp)⟩
      case round =>
        obtain ⟨j, hj, rfl, hwr, hno⟩ := hrel
        subst hwr
        clear ck ck0
        by_cases hjl : j < p.length
        · obtain ⟨c, hcc⟩ : ∃ c, Pb[j]'(by omega) = c := ⟨_, rfl⟩
          have pc : p[j] = c := by
            have : Pb.data.toList[j]'(by rw [lp]; exact hjl) = c := by rw [← hcc]; rfl
            simpa [lp] using this
          have dl : decide ((j : Int) < (Pb.size : Int)) = true := by simp; omega
          by_cases h58 : c = 58
          · have hcut := cut_at hjl (by rw [pc, h58]) (unhide hno)
            have e58 : ((c.toNat : Int) != 58) = false := by rw [h58]; decide
            have jne : ((j : Int) == (Pb.size : Int)) = false := by rw [beq_eq_false_iff_ne]; omega
            rw [hcut] at stp bad
            simp only at stp bad
            obtain ⟨P1, hP1⟩ : ∃ P1, p.take j = P1 := ⟨_, rfl⟩
            obtain ⟨P2, hP2⟩ : ∃ P2, p.drop (j + 1) = P2 := ⟨_, rfl⟩
            have x1 : Pb.extract 0 j = ⟨P1.toArray⟩ := by rw [cut_take, lp, hP1]
            have x2 : Pb.extract (j + 1) p.length = ⟨P2.toArray⟩ := by rw [← sp, cut_drop, lp, hP2]
            have z2 : P2.length ≤ s.size := by rw [← hP2, List.length_drop]; omega
            rw [hP2] at stp bad
            rw [hP1] at stp
            have q2 := hide (fun w => sReadAtom_any ⟨P2.toArray⟩ w (by rw [sz_arr]; omega))
            obtain ⟨a2, c2, e2⟩ := own_sl (unhide hownN)
            subst e2
            obtain ⟨a1, c1, e1⟩ := own_sl (unhide hown)
            subst e1
            have c6 := (unhide hR).b.at (o := 6) (v := .slice a2 k c2) rfl
            have f6 := (unhide hR).b.froz 6
            have l1 := hide (unhide hown).lt
            have l2 := hide (unhide hownN).lt
            have t2 := hide (cell_one_new wr.drew (.string ⟨P1.toArray⟩) 9)
            have i0' : (0 : Int) ≤ (j : Int) := by omega
            have c6a := ((unhide hR).keep (bAl (Below.refl _ _) (.cells #[.string ⟨P1.toArray⟩] 9))).b.at (o := 6) (v := .slice a2 k c2) rfl
            have nbx : ¬ wr.heap.size = w.heap.size + 1 := by omega
            have t5 : (k + 1) * 16 ≤ 140737488355328 := by omega
            have ne2 := hide (show ∀ g, (Value.slice a2 k c2).ownBlock = some g → w.heap.size + 1 < g from (fun g e => by have := (unhide l2 g e).1; omega))
            have jle : (j : Int) ≤ (Pb.size : Int) := by omega
            have jle1 : (j : Int) + 1 ≤ (Pb.size : Int) := by omega
            clear hcut hno pc h58 non hP1 hP2 lp
            go_wp2_with fail
            go_region_law
              (first
                | (refine step_append_lies _ (by rfl) _ _ _ (by rfl) w1.heap.size 9 i1 _ 1 16 Tryz.underlying29 gi gz0 gz1 gz2 rfl (by omega) (.slice a2 k c2) k (strsV N) (by rfl) ((unhide hownN).drew.alloc _) ⟨wr.heap.size, 0, none⟩ 1 1 [.string ⟨P1.toArray⟩] (by rfl) (by rfl) (unhide t2) (fun x hx => by simp at hx; subst hx; rfl) (by omega) (by unfold maxLen; omega) t5 (by simp; omega) (wr.heap.size + 1) (by simp) ?_; intro g4 cv4 w4 hown4 hgrow4 hat4 hlt4; have R4 := hide (((unhide hR).keep (bDrw (bAl (Below.refl _ _) (.cells #[.string ⟨P1.toArray⟩] 9)))).grown hgrow4 (unhide ne2)); have d6 := (unhide R4).b.at (o := 6) (v := .slice a2 k c2) rfl; have h6 := (unhide R4).b.froz 6))
            all_goals
              have gl : g < w1.heap.size := ((unhide hbs).lt g rfl).2
              have l4 := hown4.lt
              have sz4 : wr.heap.size + 1 ≤ w4.heap.size := by
                have h := hgrow4.size
                have e : (wr.alloc (.cells #[.string ⟨P1.toArray⟩] 9)).drew.heap.size = wr.heap.size + 1 := by show (wr.alloc (.cells #[.string ⟨P1.toArray⟩] 9)).heap.size = _; simp
                rw [e] at h
                exact h
              have dj4 := hide (show ∀ g', (Value.slice a1 k c1).ownBlock = some g' → (Value.slice (some (⟨g4, 0, none⟩ : Addr)) (k + 1) cv4).ownBlock ≠ some g' by
                intro g' e1 e2
                have eg : g4 = g' := by injection e2
                subst eg
                rcases hat4 with h | h
                · exact unhide hdj g4 e1 h
                · have := (unhide l1 g4 e1).2
                  omega)
              obtain ⟨W4, hW4⟩ : ∃ W4, W4 = w4.setCell ⟨w.heap.size + 1, 6, none⟩ (.slice (some ⟨g4, 0, none⟩) (k + 1) cv4) := ⟨_, rfl⟩
              have R5 := hide ((unhide R4).set2 (.slice (some ⟨g4, 0, none⟩) (k + 1) cv4))
              have O5 := hide (own_set (b := w.heap.size + 1) (o := 6) (u := (.slice (some ⟨g4, 0, none⟩) (k + 1) cv4)) (((unhide hown).alloc (.cells #[.string ⟨P1.toArray⟩] 9)).drew.kept hgrow4 (own_or (unhide hdj))) (fun g' e => by have := (unhide l1 g' e).1; omega))
              have N5 := hide (own_set (b := w.heap.size + 1) (o := 6) (u := (.slice (some ⟨g4, 0, none⟩) (k + 1) cv4)) hown4 (fun g' e => by have := (l4 g' e).1; omega))
              have S5 := hide (own_set (b := w.heap.size + 1) (o := 6) (u := (.slice (some ⟨g4, 0, none⟩) (k + 1) cv4)) (((unhide hrow).alloc (.cells #[.string ⟨P1.toArray⟩] 9)).drew.kept hgrow4 (.inr (fun e => by have := (unhide l2 g e.symm).1; omega))) (fun g' e => by have := ((unhide hrow).lt g' e).1; omega))
              have B5 := hide (below_set (o := 6) (v := (.slice (some ⟨g4, 0, none⟩) (k + 1) cv4)) ((bAl (unhide hb) (.cells #[.string ⟨P1.toArray⟩] 9)).drew.grown hgrow4 (by have := (unhide hb).size; show _ ≤ (wr.alloc (.cells #[.string ⟨P1.toArray⟩] 9)).heap.size; simp; omega) (fun j hj => by have := unhide ne2 j hj; omega)) (show w.heap.size ≤ w.heap.size + 1 by omega))
              have sW : w4.heap.size = W4.heap.size := by rw [hW4]; simp [World.setCell]
              have l5 := hide (show ∀ g', (Value.slice (some (⟨g4, 0, none⟩ : Addr)) (k + 1) cv4).ownBlock = some g' → w1.heap.size ≤ g' ∧ g' < W4.heap.size from fun g' e => by have := l4 g' e; omega)
              have E1 : strsV (N ++ [P1]) = strsV N ++ [.string ⟨P1.toArray⟩] := by simp [strsV]
              rw [← E1] at N5
              rw [← hW4] at R5 O5 N5 S5 B5 ⊢
              clear hW4 hown4 hgrow4 hat4 hlt4 R4 d6 h6 l4 c6 f6 c6a t2 hR hown hownN hrow hb hdj l1 l2 E1
              go_wp2_with fail
              try rw [x2]
              refine (unhide q2 _).mono ?_
              rintro e w6 ⟨⟨x, n, t, y, ok, rfl, ha⟩, hb6⟩
              have ba := bAl (Below.refl w6.heap.size w6) (.cells #[.int .i64 x, .int .i64 n, .string t, .string y] 23)
              have l1 := hide (own_keepT (unhide O5) hb6).lt
              have R6 := hide (((unhide R5).keep hb6).keep ba)
              have O6 := hide ((own_keepT (unhide O5) hb6).alloc (.cells #[.int .i64 x, .int .i64 n, .string t, .string y] 23))
              have N6 := hide ((own_keepT (unhide N5) hb6).alloc (.cells #[.int .i64 x, .int .i64 n, .string t, .string y] 23))
              have S6 := hide ((own_keepT (unhide S5) hb6).alloc (.cells #[.int .i64 x, .int .i64 n, .string t, .string y] 23))
              have B6 := hide (bTr (bTr (unhide B5) hb6) ba)
              have RA := hide (RowIs.new w6 #[.int .i64 x, .int .i64 n, .string t, .string y] 23)
              have b6 : W4.heap.size ≤ w6.heap.size := hb6.size
              clear hb6 q2 ba R5 O5 N5 S5 B5
              iterate 20 (try (first | go_values | go_skip | go_guarded | go_step | go_upon | go_simp))
              obtain ⟨W6, hW6⟩ : ∃ W6, W6 = w6.alloc (.cells #[.int .i64 x, .int .i64 n, .string t, .string y] 23) := ⟨_, rfl⟩
              have sz6 : w6.heap.size + 1 = W6.heap.size := by rw [hW6]; simp
              rw [← hW6] at R6 O6 N6 S6 B6 RA ⊢
              clear hW6
              cases ok with
              | false =>
                have ai := hide (unhide bad _ _ _ _ ha)
                clear ha bad stp
                have d0 := ((unhide R6).r).at (o := 0) (v := .int .i64 0) rfl
                have d1 := ((unhide R6).r).at (o := 1) (v := .int .i64 0) rfl
                have d2 := ((unhide R6).r).at (o := 2) (v := .int .i64 0) rfl
                have d3 := ((unhide R6).r).at (o := 3) (v := .string ⟨#[]⟩) rfl
                have d4 := ((unhide R6).r).at (o := 4) (v := .string ⟨#[]⟩) rfl
                have d5 := ((unhide R6).r).at (o := 5) (v := .slice none 0 0) rfl
                have d6 := ((unhide R6).r).at (o := 6) (v := .slice none 0 0) rfl
                have f0 := ((unhide R6).r).froz 0
                have f1 := ((unhide R6).r).froz 1
                have f2 := ((unhide R6).r).froz 2
                have f3 := ((unhide R6).r).froz 3
                have f4 := ((unhide R6).r).froz 4
                have f5 := ((unhide R6).r).froz 5
                have f6 := ((unhide R6).r).froz 6
                go_wp2_with fail
                refine bodyPost_ret (v := .tuple #[VRet zVal (.slice none 0 0) (.slice none 0 0), .bool false]) (by simp [results, Tryz.results8, go_sem, VRet, d0, d1, d2, d3, d4, d5, d6]) rfl ⟨⟨_, _, _, _, rfl, zval_own _ _, ai⟩, below_set7 (unhide B6) (Nat.le_refl _)⟩
              | true =>
                have rd4 := hide (unhide stp ⟨x, n, t, y⟩ true ha)
                have c5 := (unhide R6).b.at (o := 5) (v := .slice a1 k c1) rfl
                have f5 := (unhide R6).b.froz 5
                have x0 := (unhide RA).at (o := 0) (v := .int .i64 x) rfl
                have y1 := (unhide RA).at (o := 1) (v := .int .i64 n) rfl
                have y2 := (unhide RA).at (o := 2) (v := .string t) rfl
                have y3 := (unhide RA).at (o := 3) (v := .string y) rfl
                clear ha bad stp
                have t1 := hide ((unhide O6).alloc (.cells #[.int .i64 x, .int .i64 n, .string t, .string y] 23))
                have t2 := hide (cell_four_new W6 (cellsA ⟨x, n, t, y⟩) 23)
                have T3 := hide (show ∀ u ∈ cellsA ⟨x, n, t, y⟩, u.oneCell' = true from fun u hu => by simp [cellsA] at hu; rcases hu with rfl | rfl | rfl | rfl <;> rfl)
                have T4 := hide (show w1.heap.size ≤ (W6.alloc (.cells #[.int .i64 x, .int .i64 n, .string t, .string y] 23)).heap.size by simp; omega)
                have t6 : (k + 1) * 48 ≤ 140737488355328 := by omega
                go_wp2_with (at_builtin; refine wpList_append_own_at _ rfl _ _ 28 rfl w1.heap.size 23 i0 _ 4 48 Tryz.underlying28 hi hz0 hz1 hz2 rfl (by decide) _ _ _ rfl (unhide t1) ⟨_, 0, none⟩ 1 1 (cellsA ⟨x, n, t, y⟩) rfl rfl (unhide t2) (unhide T3) (by unfold maxLen; omega) t6 (unhide T4) ?_; intro v3 w3 hown3 hgrow3 _ hat3; obtain ⟨av3, cv3, ev3⟩ := own_sl hown3; subst ev3; have ne1 : ∀ g, (Value.slice a1 k c1).ownBlock = some g → w.heap.size + 1 < g := (fun g e => by have := (unhide l1 g e).1; omega); have R7 := hide ((((unhide R6).keep (bAl (Below.refl _ _) (.cells #[.int .i64 x, .int .i64 n, .string t, .string y] 23))).grown hgrow3 ne1)); have d5 := (unhide R7).b.at (o := 5) (v := .slice a1 k c1) rfl; have h5 := (unhide R7).b.froz 5)
                have sz3 : W6.heap.size ≤ w3.heap.size := by have := hgrow3.size; simp at this; omega
                have eh : (W6.alloc (.cells #[.int .i64 x, .int .i64 n, .string t, .string y] 23)).heap.size = W6.heap.size + 1 := by simp
                have dj6 : ∀ g', (Value.slice av3 (k + 1) cv3).ownBlock = some g' → (Value.slice (some (⟨g4, 0, none⟩ : Addr)) (k + 1) cv4).ownBlock ≠ some g' := by
                  intro g' e1 e2
                  rcases hat3 with h | h
                  · rw [h] at e1; exact unhide dj4 g' e1 e2
                  · rw [h, eh] at e1
                    injection e1 with e1
                    have := (unhide l5 g' e2).2
                    omega
                refine ⟨⟨k + 1, I ++ [⟨x, n, t, y⟩], N ++ [P1], _, _, by omega, by simp, by simp [hI], by simp [hN], by simp [World.setCell]; omega, hide ((unhide R7).set1 _), hide ?_, hide ?_, hide dj6, hide ?_, hide ?_, rd4⟩, by simp [intOf]; omega⟩
                · rw [atomsV_snoc]
                  exact own_set hown3 (fun g' e => by have := (hown3.lt g' e).1; omega)
                · exact own_set (((unhide N6).alloc _).kept hgrow3 (own_or (fun g' e1 e2 => unhide dj4 g' e2 e1))) (fun g' e => by have := (unhide l5 g' e).1; omega)
                · exact below_set ((bAl (unhide B6) _).grown hgrow3 (by have := (unhide B6).size; simp; omega) (fun j hj => by have := ne1 j hj; omega)) (by omega)
                · refine own_set (((unhide S6).alloc _).kept hgrow3 (.inr (fun e => ?_))) (fun g' e => ?_)
                  · have := (unhide l1 g e.symm).1
                    omega
                  · have := ((unhide S6).lt g' e).1
                    omega
          · have e58 : ((c.toNat : Int) != 58) = true := by
              have : ¬ (c.toNat : Int) = 58 := fun e => h58 (UInt8.toNat_inj.1 (show c.toNat = 58 by omega))
              simpa using this
            have st := hide (take_no hjl (by rw [pc]; exact h58) (unhide hno))
            clear hno pc h58
            go_wp2_with fail
            exact ⟨⟨j + 1, by omega, by simp, trivial, st⟩, by simp [intOf]; omega⟩
        · have dl : decide ((j : Int) < (Pb.size : Int)) = false := by simp; omega
          have je : ((j : Int) == (Pb.size : Int)) = true := by rw [beq_iff_eq]; omega
          have ai := hide (unhide non (by have := unhide hno; rw [List.take_of_length_le (by omega)] at this; exact this))
          clear hno non
          have d0 := ((unhide hR).r).at (o := 0) (v := .int .i64 0) rfl
          have d1 := ((unhide hR).r).at (o := 1) (v := .int .i64 0) rfl
          have d2 := ((unhide hR).r).at (o := 2) (v := .int .i64 0) rfl
          have d3 := ((unhide hR).r).at (o := 3) (v := .string ⟨#[]⟩) rfl
          have d4 := ((unhide hR).r).at (o := 4) (v := .string ⟨#[]⟩) rfl
          have d5 := ((unhide hR).r).at (o := 5) (v := .slice none 0 0) rfl
          have d6 := ((unhide hR).r).at (o := 6) (v := .slice none 0 0) rfl
          have f0 := ((unhide hR).r).froz 0
          have f1 := ((unhide hR).r).froz 1
          have f2 := ((unhide hR).r).froz 2
          have f3 := ((unhide hR).r).froz 3
          have f4 := ((unhide hR).r).froz 4
          have f5 := ((unhide hR).r).froz 5
          have f6 := ((unhide hR).r).froz 6
          go_wp2_with fail
          refine bodyPost_ret (v := .tuple #[VRet zVal (.slice none 0 0) (.slice none 0 0), .bool false]) (by simp [results, Tryz.results8, go_sem, VRet, d0, d1, d2, d3, d4, d5, d6]) rfl ⟨⟨_, _, _, _, rfl, zval_own _ _, ai⟩, below_set7 (unhide hb) (Nat.le_refl _)⟩
    · have ek : k = R.length := by omega
      have gu := hide (rec_guess (by omega) (unhide hit) (unhide hrd) (by omega) (unhide HX))
      obtain ⟨T, hcall, hT⟩ := vtext ⟨3, zA, I, N.map mkB⟩ (unhide gu).ok
      obtain ⟨a5, c5, e5⟩ := own_sl (unhide hown)
      subst e5
      obtain ⟨a6, c6, e6⟩ := own_sl (unhide hownN)
      subst e6
      have hnn := unhide hownN
      rw [strs_mk] at hnn
      have q5 := hide (hcall a5 a6 k c5 k c6 wr (sla_own (unhide hown)) (sls_own hnn))
      have ve := hide (vis_end (s := s) (by omega) (unhide gu) hT)
      have OW := hide (show VOwn wr w1.heap.size ⟨3, zA, I, N.map mkB⟩ (.slice a5 k c5) (.slice a6 k c6) from ⟨by rw [show (⟨3, zA, I, N.map mkB⟩ : ValT).items.length = k from hI]; exact unhide hown, by rw [show (⟨3, zA, I, N.map mkB⟩ : ValT).names.length = k by show (N.map mkB).length = k; rw [List.length_map]; exact hN]; exact hnn, unhide hdj⟩)
      clear hcall hT hrd ek gu hnn
      have j0 := ((unhide hR).b).at (o := 0) (v := .int .i64 3) rfl
      have j1 := ((unhide hR).b).at (o := 1) (v := .int .i64 0) rfl
      have j2 := ((unhide hR).b).at (o := 2) (v := .int .i64 0) rfl
      have j3 := ((unhide hR).b).at (o := 3) (v := .string ⟨#[]⟩) rfl
      have j4 := ((unhide hR).b).at (o := 4) (v := .string ⟨#[]⟩) rfl
      have j5 := ((unhide hR).b).at (o := 5) (v := .slice a5 k c5) rfl
      have j6 := ((unhide hR).b).at (o := 6) (v := .slice a6 k c6) rfl
      go_wp2_with fail
      refine (unhide q5).mono ?_
      rintro e w5 ⟨rfl, hb5⟩
      replace OW := hide ((unhide OW).keep hb5)
      have R5 := hide ((unhide hR).keep hb5)
      have B5 := hide (bTr (unhide hb) hb5)
      clear hb5 q5 j0 j1 j2 j3 j4 j5 j6 hR hb hown hownN hdj
      by_cases hx : T = s
      · have ai := hide ((unhide ve).1 hx)
        have hx2 : (T.toList == s.toList) = true := by rw [hx]; simp
        clear hx ve
        have d0 := ((unhide R5).r).at (o := 0) (v := .int .i64 0) rfl
        have d1 := ((unhide R5).r).at (o := 1) (v := .int .i64 0) rfl
        have d2 := ((unhide R5).r).at (o := 2) (v := .int .i64 0) rfl
        have d3 := ((unhide R5).r).at (o := 3) (v := .string ⟨#[]⟩) rfl
        have d4 := ((unhide R5).r).at (o := 4) (v := .string ⟨#[]⟩) rfl
        have d5 := ((unhide R5).r).at (o := 5) (v := .slice none 0 0) rfl
        have d6 := ((unhide R5).r).at (o := 6) (v := .slice none 0 0) rfl
        have f0 := ((unhide R5).r).froz 0
        have f1 := ((unhide R5).r).froz 1
        have f2 := ((unhide R5).r).froz 2
        have f3 := ((unhide R5).r).froz 3
        have f4 := ((unhide R5).r).froz 4
        have f5 := ((unhide R5).r).froz 5
        have f6 := ((unhide R5).r).froz 6
        have j0 := ((unhide R5).b).at (o := 0) (v := .int .i64 3) rfl
        have j1 := ((unhide R5).b).at (o := 1) (v := .int .i64 0) rfl
        have j2 := ((unhide R5).b).at (o := 2) (v := .int .i64 0) rfl
        have j3 := ((unhide R5).b).at (o := 3) (v := .string ⟨#[]⟩) rfl
        have j4 := ((unhide R5).b).at (o := 4) (v := .string ⟨#[]⟩) rfl
        have j5 := ((unhide R5).b).at (o := 5) (v := .slice a5 k c5) rfl
        have j6 := ((unhide R5).b).at (o := 6) (v := .slice a6 k c6) rfl
        go_wp2_with fail
        refine bodyPost_ret (v := .tuple #[VRet ⟨3, zA, I, N.map mkB⟩ (.slice a5 k c5) (.slice a6 k c6), .bool true]) (by simp [results, Tryz.results8, go_sem, VRet, d0, d1, d2, d3, d4, d5, d6]) rfl ⟨⟨_, _, _, _, rfl, (unhide OW).set7 (by omega) (by omega), ai⟩, below_set7 (unhide B5) (Nat.le_refl _)⟩
      · have ai := hide ((unhide ve).2 hx)
        have hx2 : (T.toList == s.toList) = false := by simpa using str_neq hx
        clear hx ve
        have d0 := ((unhide R5).r).at (o := 0) (v := .int .i64 0) rfl
        have d1 := ((unhide R5).r).at (o := 1) (v := .int .i64 0) rfl
        have d2 := ((unhide R5).r).at (o := 2) (v := .int .i64 0) rfl
        have d3 := ((unhide R5).r).at (o := 3) (v := .string ⟨#[]⟩) rfl
        have d4 := ((unhide R5).r).at (o := 4) (v := .string ⟨#[]⟩) rfl
        have d5 := ((unhide R5).r).at (o := 5) (v := .slice none 0 0) rfl
        have d6 := ((unhide R5).r).at (o := 6) (v := .slice none 0 0) rfl
        have f0 := ((unhide R5).r).froz 0
        have f1 := ((unhide R5).r).froz 1
        have f2 := ((unhide R5).r).froz 2
        have f3 := ((unhide R5).r).froz 3
        have f4 := ((unhide R5).r).froz 4
        have f5 := ((unhide R5).r).froz 5
        have f6 := ((unhide R5).r).froz 6
        go_wp2_with fail
        refine bodyPost_ret (v := .tuple #[VRet zVal (.slice none 0 0) (.slice none 0 0), .bool false]) (by simp [results, Tryz.results8, go_sem, VRet, d0, d1, d2, d3, d4, d5, d6]) rfl ⟨⟨_, _, _, _, rfl, zval_own _ _, ai⟩, below_set7 (unhide B5) (Nat.le_refl _)⟩
end Go.Proofs.YtijfgfdagfchiaaGreatDoor.V
/- spec.ReadValue. -/
namespace Go.Proofs.YtijfgfdagfchiaaGreatDoor.V
open Go.RowKit

theorem sReadValue_any (s : ByteArray) (w : World) :
    Calls Tryz.prog 8 #[.string s] w fun e w' => VRdRet s.data.toList w.heap.size e w' ∧ Below w.heap.size w w' := by
  by_cases hz : 60000 < s.size
  · exact sReadValue_big s w hz
  by_cases h2 : s.size < 2
  · exact sReadValue_atom s w (by omega) (.inl h2)
  by_cases h91 : s[0]'(by omega) = 91
  · exact sReadValue_set s w (by omega) (by omega) h91
  by_cases h123 : s[0]'(by omega) = 123
  · exact sReadValue_rec s w (by omega) (by omega) h123
  · exact sReadValue_atom s w (by omega) (.inr ⟨by omega, h91, h123⟩)
end Go.Proofs.YtijfgfdagfchiaaGreatDoor.V
