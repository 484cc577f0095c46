/- BRv, BPa, one behind the other. -/
import Derived.Test.YticidjceljjfnaaGreatDoorJ35
import Derived.Test.YticidjceljjfnaaGreatDoorJ32
/- impl.ReadValue. -/
namespace Go.Proofs.YticidjceljjfnaaGreatDoor.V
open Go.RowKit
set_option maxRecDepth 20000

abbrev zVal : ValT := ⟨0, zA, [], []⟩
structure VIs (l : List UInt8) (v : ValT) (ok : Bool) : Prop where
  yes : ok = true → GoodVal v ∧ valL v = l ∧ v.Ok
  all : ∀ v' : ValT, v'.Ok → GoodVal v' → valL v' = l → ok = true ∧ v = v'
  zero : ok = false → v = zVal
theorem VIs.uniq {l : List UInt8} {v v' : ValT} {ok ok' : Bool} (h : VIs l v ok) (g : VIs l v' ok') : ok = ok' ∧ v = v' := by
  cases ok with
  | true =>
    obtain ⟨a, b, c⟩ := h.yes rfl
    obtain ⟨d, e⟩ := g.all _ c a b
    exact ⟨d.symm, e.symm⟩
  | false =>
    cases ok' with
    | true =>
      obtain ⟨a, b, c⟩ := g.yes rfl
      have := (h.all _ c a b).1
      cases this
    | false => exact ⟨rfl, (h.zero rfl).trans (g.zero rfl).symm⟩
theorem v_no {l : List UInt8} (h : ∀ v' : ValT, v'.Ok → GoodVal v' → ¬ valL v' = l) : VIs l zVal false := ⟨fun h => (by cases h), fun v' a b e => absurd e (h v' a b), fun _ => rfl⟩
def VRdRet (l : List UInt8) (base : Nat) (e : Ending) (w' : World) : Prop := ∃ v v1 v2 ok, e = .returned (.tuple #[VRet v v1 v2, .bool ok]) ∧ VOwn w' base v v1 v2 ∧ Hid (VIs l v ok)
theorem zval_own (w : World) (base : Nat) : VOwn w base zVal (.slice none 0 0) (.slice none 0 0) := VOwn.nil w base 0 zA
theorem VOwn.set7 {w : World} {base base' b : Nat} {v : ValT} {v1 v2 u0 u1 u2 u3 u4 u5 u6 : Value} (h : VOwn w base v v1 v2) (hb : base' ≤ base) (hne : b < base) :
    VOwn (((((((w.setCell ⟨b, 0, none⟩ u0).setCell ⟨b, 1, none⟩ u1).setCell ⟨b, 2, none⟩ u2).setCell ⟨b, 3, none⟩ u3).setCell ⟨b, 4, none⟩ u4).setCell ⟨b, 5, none⟩ u5).setCell ⟨b, 6, none⟩ u6) base' v v1 v2 :=
  ⟨own_set7 h.i hb hne, own_set7 h.n hb hne, h.dj⟩

set_option maxHeartbeats 4000000 in
theorem iReadValue_any (s : ByteArray) (w : World) (hs : s.size ≤ 1048576) (hE : Env w) :
    Calls Tryz.prog 53 #[.string s] w fun e w' => VRdRet s.data.toList w.heap.size e w' ∧ Below w.heap.size w w' := by
  have b0 := bAl (Below.refl w.heap.size w) (.cells (zV 0 (.slice none 0 0) (.slice none 0 0)) 35)
  have B0 := hide b0
  have R := hide (RowIs.new w (zV 0 (.slice none 0 0) (.slice none 0 0)) 35)
  have HE := hide (hE.keep b0)
  have sz0 : (w.alloc (.cells (zV 0 (.slice none 0 0) (.slice none 0 0)) 35)).heap.size = w.heap.size + 1 := by simp
  have q1 := hide (guessValue_any s _ hs (unhide HE))
  clear hE b0
  go_enter Tryz.func53, Tryz.ntmps53
  go_wp2_with fail
  refine (unhide q1).mono ?_
  rintro e w1 ⟨⟨v, v1, v2, rfl, hown, hgu⟩, hb1⟩
  rw [sz0] at hown
  obtain ⟨a1, c1, e1⟩ := own_sl hown.i
  subst e1
  obtain ⟨a2, c2, e2⟩ := own_sl hown.n
  subst e2
  have OW := hide hown
  have hok := (unhide hgu).ok
  have lt1 : w.heap.size < w1.heap.size := ((unhide R).keep hb1).lt
  have ba := bAl (Below.refl w1.heap.size w1) (.cells #[.int .i64 v.k, .int .i64 v.a.x, .int .i64 v.a.n, .string v.a.t, .string v.a.y, .slice a1 v.items.length c1, .slice a2 v.names.length c2] 35)
  replace R := hide (((unhide R).keep hb1).keep ba)
  have RV := hide (RowIs.new w1 #[.int .i64 v.k, .int .i64 v.a.x, .int .i64 v.a.n, .string v.a.t, .string v.a.y, .slice a1 v.items.length c1, .slice a2 v.names.length c2] 35)
  have OW2 := hide ((unhide OW).keep ba)
  have B2 := hide (bTr (bTr (unhide B0) hb1) ba)
  replace HE := hide (((unhide HE).keep hb1).keep ba)
  have li : v.items.length ≤ maxLen := by
    rcases hown.i.2 with ⟨_, h⟩ | ⟨_, _, _, _, _, _, h3, h4, _⟩
    · rw [h]; unfold maxLen; omega
    · omega
  have q2 := hide (iGoodValue_any v hok a1 a2 v.items.length c1 v.names.length c2 _ li (sla_own (unhide OW2).i) (sls_own (unhide OW2).n))
  have HOK := hide hok
  have LI := hide li
  have nab : ¬ w1.heap.size = w.heap.size := by omega
  clear hown hb1 ba q1 B0 OW hok li
  unfold VRet
  go_wp2_with fail
  refine (unhide q2).mono ?_
  rintro e w2 ⟨hret, hb2⟩
  replace R := hide ((unhide R).keep hb2)
  replace RV := hide ((unhide RV).keep hb2)
  replace OW2 := hide ((unhide OW2).keep hb2)
  replace HE := hide ((unhide HE).keep hb2)
  have B3 := hide (bTr (unhide B2) hb2)
  have lt2 : w1.heap.size < w2.heap.size := (unhide RV).lt
  clear hb2 q2 B2
  obtain ⟨bg, rfl, hbg⟩ := hret
  cases bg with
  | false =>
    have ai := hide (v_no (l := s.data.toList) (fun v' a b e => by
      have := (unhide hgu).fit v' a b e
      subst this
      have := hbg.2 b
      cases this))
    clear hbg
    have d0 := (unhide R).at (o := 0) (v := .int .i64 0) rfl
    have d1 := (unhide R).at (o := 1) (v := .int .i64 0) rfl
    have d2 := (unhide R).at (o := 2) (v := .int .i64 0) rfl
    have d3 := (unhide R).at (o := 3) (v := .string ⟨#[]⟩) rfl
    have d4 := (unhide R).at (o := 4) (v := .string ⟨#[]⟩) rfl
    have d5 := (unhide R).at (o := 5) (v := .slice none 0 0) rfl
    have d6 := (unhide R).at (o := 6) (v := .slice none 0 0) rfl
    have f0 := (unhide R).froz 0
    have f1 := (unhide R).froz 1
    have f2 := (unhide R).froz 2
    have f3 := (unhide R).froz 3
    have f4 := (unhide R).froz 4
    have f5 := (unhide R).froz 5
    have f6 := (unhide R).froz 6
    go_wp2_with fail
    refine bodyPost_ret (v := .tuple #[VRet zVal (.slice none 0 0) (.slice none 0 0), .bool false]) (by simp [results, Tryz.results53, go_sem, VRet, d0, d1, d2, d3, d4, d5, d6]) rfl ⟨⟨_, _, _, _, rfl, zval_own _ _, ai⟩, ?_⟩
    exact below_set7 (unhide B3) (Nat.le_refl _)
  | true =>
    have hgood := hbg.1 rfl
    have HG := hide hgood
    have q3 := hide (iValueText_yes v (unhide HOK) a1 a2 v.items.length c1 v.names.length c2 w2 (unhide LI) (unhide HE).tab (sla_own (unhide OW2).i) (sls_own (unhide OW2).n) hgood)
    have HX := hide (show (⟨(valL v).toArray⟩ : ByteArray) = s ↔ valL v = s.data.toList from ⟨fun h => by rw [← h], fun h => by rw [h, mk_list]⟩)
    generalize (⟨(valL v).toArray⟩ : ByteArray) = X at q3 HX
    clear hbg hgood
    have v0 := (unhide RV).at (o := 0) (v := .int .i64 v.k) rfl
    have v1 := (unhide RV).at (o := 1) (v := .int .i64 v.a.x) rfl
    have v2 := (unhide RV).at (o := 2) (v := .int .i64 v.a.n) rfl
    have v3 := (unhide RV).at (o := 3) (v := .string v.a.t) rfl
    have v4 := (unhide RV).at (o := 4) (v := .string v.a.y) rfl
    have v5 := (unhide RV).at (o := 5) (v := .slice a1 v.items.length c1) rfl
    have v6 := (unhide RV).at (o := 6) (v := .slice a2 v.names.length c2) rfl
    go_wp2_with fail
    refine (unhide q3).mono ?_
    rintro e w3 ⟨rfl, hb3⟩
    replace R := hide ((unhide R).keep hb3)
    replace RV := hide ((unhide RV).keep hb3)
    replace OW2 := hide ((unhide OW2).keep hb3)
    have B4 := hide (bTr (unhide B3) hb3)
    clear hb3 q3 B3 v0 v1 v2 v3 v4 v5 v6
    by_cases hx : X = s
    · have ai := hide (show VIs s.data.toList v true from ⟨fun _ => ⟨unhide HG, (unhide HX).1 hx, unhide HOK⟩, fun v' a b e => ⟨rfl, (unhide hgu).fit v' a b e⟩, fun h => (by cases h)⟩)
      have hx2 : (X.toList == s.toList) = true := by rw [hx]; simp
      clear hx
      have d0 := (unhide R).at (o := 0) (v := .int .i64 0) rfl
      have d1 := (unhide R).at (o := 1) (v := .int .i64 0) rfl
      have d2 := (unhide R).at (o := 2) (v := .int .i64 0) rfl
      have d3 := (unhide R).at (o := 3) (v := .string ⟨#[]⟩) rfl
      have d4 := (unhide R).at (o := 4) (v := .string ⟨#[]⟩) rfl
      have d5 := (unhide R).at (o := 5) (v := .slice none 0 0) rfl
      have d6 := (unhide R).at (o := 6) (v := .slice none 0 0) rfl
      have f0 := (unhide R).froz 0
      have f1 := (unhide R).froz 1
      have f2 := (unhide R).froz 2
      have f3 := (unhide R).froz 3
      have f4 := (unhide R).froz 4
      have f5 := (unhide R).froz 5
      have f6 := (unhide R).froz 6
      have v0 := (unhide RV).at (o := 0) (v := .int .i64 v.k) rfl
      have v1 := (unhide RV).at (o := 1) (v := .int .i64 v.a.x) rfl
      have v2 := (unhide RV).at (o := 2) (v := .int .i64 v.a.n) rfl
      have v3 := (unhide RV).at (o := 3) (v := .string v.a.t) rfl
      have v4 := (unhide RV).at (o := 4) (v := .string v.a.y) rfl
      have v5 := (unhide RV).at (o := 5) (v := .slice a1 v.items.length c1) rfl
      have v6 := (unhide RV).at (o := 6) (v := .slice a2 v.names.length c2) rfl
      go_wp2_with fail
      refine bodyPost_ret (v := .tuple #[VRet v (.slice a1 v.items.length c1) (.slice a2 v.names.length c2), .bool true]) (by simp [results, Tryz.results53, go_sem, VRet, d0, d1, d2, d3, d4, d5, d6]) rfl ⟨⟨_, _, _, _, rfl, ?_, ai⟩, below_set7 (unhide B4) (Nat.le_refl _)⟩
      exact (unhide OW2).set7 (by omega) (by omega)
    · have ai := hide (v_no (l := s.data.toList) (fun v' a b e => by
        have := (unhide hgu).fit v' a b e
        subst this
        exact hx ((unhide HX).2 e)))
      have hx2 : (X.toList == s.toList) = false := by simpa using str_neq hx
      clear hx
      have d0 := (unhide R).at (o := 0) (v := .int .i64 0) rfl
      have d1 := (unhide R).at (o := 1) (v := .int .i64 0) rfl
      have d2 := (unhide R).at (o := 2) (v := .int .i64 0) rfl
      have d3 := (unhide R).at (o := 3) (v := .string ⟨#[]⟩) rfl
      have d4 := (unhide R).at (o := 4) (v := .string ⟨#[]⟩) rfl
      have d5 := (unhide R).at (o := 5) (v := .slice none 0 0) rfl
      have d6 := (unhide R).at (o := 6) (v := .slice none 0 0) rfl
      have f0 := (unhide R).froz 0
      have f1 := (unhide R).froz 1
      have f2 := (unhide R).froz 2
      have f3 := (unhide R).froz 3
      have f4 := (unhide R).froz 4
      have f5 := (unhide R).froz 5
      have f6 := (unhide R).froz 6
      go_wp2_with fail
      refine bodyPost_ret (v := .tuple #[VRet zVal (.slice none 0 0) (.slice none 0 0), .bool false]) (by simp [results, Tryz.results53, go_sem, VRet, d0, d1, d2, d3, d4, d5, d6]) rfl ⟨⟨_, _, _, _, rfl, zval_own _ _, ai⟩, ?_⟩
      exact below_set7 (unhide B4) (Nat.le_refl _)
end Go.Proofs.YticidjceljjfnaaGreatDoor.V
/- spec.l1Parts. -/
namespace Go.Proofs.YticidjceljjfnaaGreatDoor.V
open Go.RowKit
set_option maxRecDepth 20000

structure PartsAre (l : List UInt8) (R : List (List UInt8)) : Prop where
  len : R.length ≤ l.length + 1
  each : ∀ p ∈ R, p.length ≤ l.length
  all : ∀ L, Fits l L → R = L
  nil : l = [] → R = []
/-- On the way. -/
structure PL (l : List UInt8) (R : List (List UInt8)) (f : Nat) (b : Bool) (k : Nat) : Prop where
  kl : k ≤ l.length
  fk : f ≤ k
  cut : (k - f) + cutAt b (l.drop k) = cutAt false (l.drop f)
  len : R.length ≤ f
  each : ∀ p ∈ R, p.length ≤ l.length
  all : ∀ L, Fits l L → R.length < L.length ∧ R = L.take R.length ∧ l.drop f = Lib.join (L.drop R.length) [44]
theorem PL.start (l : List UInt8) : PL l [] 0 false 0 :=
  ⟨Nat.zero_le _, Nat.le_refl _, by simp, by simp, by simp, fun L h => ⟨by have := h.len; simp; omega, by simp, by simpa using h.is.symm⟩⟩
theorem join_longer (p q : List UInt8) (L : List (List UInt8)) : p.length < (Lib.join (p :: q :: L) [44]).length := by rw [join_two]; simp
theorem PL.piece {l : List UInt8} {R : List (List UInt8)} {f : Nat} {b : Bool} {k : Nat} (h : PL l R f b k) {m : Nat} (hm : cutAt false (l.drop f) = m) {L : List (List UInt8)} (hL : Fits l L) :
    R ++ [(l.drop f).take m] = L.take (R.length + 1) ∧ ((l.drop f).length ≤ m → R.length + 1 = L.length) ∧ (m < (l.drop f).length → R.length + 1 < L.length ∧ l.drop (f + (m + 1)) = Lib.join (L.drop (R.length + 1)) [44]) := by
  obtain ⟨h1, h2, h3⟩ := h.all L hL
  have e : L.drop R.length = L[R.length] :: L.drop (R.length + 1) := List.drop_eq_getElem_cons h1
  have hp := (hL.each L[R.length] (List.getElem_mem _)).1
  rw [e] at h3
  have hc : m = (L[R.length]).length := by rw [← hm, h3]; exact cut_first hp _
  refine ⟨?_, fun hle => ?_, fun hlt => ?_⟩
  · rw [List.take_succ_eq_append_getElem h1, ← h2, h3, hc, join_take]
  · cases hr : L.drop (R.length + 1) with
    | nil =>
      have := congrArg List.length hr
      rw [List.length_drop] at this
      simp at this
      omega
    | cons q t =>
      exfalso
      have := join_longer (L[R.length]) q t
      rw [h3, hr] at hle
      omega
  · cases hr : L.drop (R.length + 1) with
    | nil =>
      exfalso
      rw [h3, hr, join_one] at hlt
      omega
    | cons q t =>
      have := congrArg List.length hr
      rw [List.length_drop] at this
      simp at this
      refine ⟨by omega, ?_⟩
      rw [← List.drop_drop, h3, hc, join_drop, hr]
theorem snoc_each {R : List (List UInt8)} {p : List UInt8} {n : Nat} (h : ∀ q ∈ R, q.length ≤ n) (hp : p.length ≤ n) : ∀ q ∈ R ++ [p], q.length ≤ n := by
  intro q hq
  rw [List.mem_append, List.mem_singleton] at hq
  rcases hq with hq | hq
  · exact h q hq
  · rw [hq]; exact hp
/-- Nothing is left: the last piece. -/
theorem PL.last {l : List UInt8} {R : List (List UInt8)} {f : Nat} {b : Bool} {k : Nat} (h : PL l R f b k) (hne : l ≠ []) (hc : cutAt false (l.drop f) = l.length - f) : PartsAre l (R ++ [l.drop f]) := by
  have h1 := h.len
  have h2 := h.fk
  have h3 := h.kl
  have hl : (l.drop f).length = l.length - f := List.length_drop
  refine ⟨by simp; omega, snoc_each h.each (by omega), fun L hL => ?_, fun e => absurd e hne⟩
  obtain ⟨a, b, _⟩ := h.piece hc hL
  rw [List.take_of_length_le (by omega)] at a
  rw [a, b (by omega)]
  exact List.take_length
theorem PL.fin {l : List UInt8} {R : List (List UInt8)} {f : Nat} {b : Bool} (h : PL l R f b l.length) (hne : l ≠ []) : PartsAre l (R ++ [(l.drop f).take (l.length - f)]) := by
  have hc := h.cut
  rw [List.drop_eq_nil_of_le (Nat.le_refl _), cut_nil] at hc
  have := h.last hne (by omega)
  rwa [List.take_of_length_le (by rw [List.length_drop]; omega)]
theorem PL.com {l : List UInt8} {R : List (List UInt8)} {f k : Nat} (h : PL l R f false k) (hk : k < l.length) (hc : l[k] = 44) : PL l (R ++ [(l.drop f).take (k - f)]) (k + 1) false (k + 1) := by
  have h1 := h.len
  have h2 := h.fk
  have hcut := h.cut
  rw [drop_at hk, hc, cut_com] at hcut
  refine ⟨by omega, Nat.le_refl _, by simp, by simp; omega, snoc_each h.each (by rw [List.length_take, List.length_drop]; omega), fun L hL => ?_⟩
  obtain ⟨a, _, c⟩ := h.piece (m := k - f) (by omega) hL
  obtain ⟨c1, c2⟩ := c (by rw [List.length_drop]; omega)
  rw [List.length_append, List.length_singleton]
  exact ⟨c1, a, by rw [← c2]; congr 1; omega⟩
theorem PL.esc {l : List UInt8} {R : List (List UInt8)} {f k : Nat} (h : PL l R f true k) (hk : k + 1 < l.length) (hc : l[k] = 92) : PL l R f true (k + 2) := by
  have h2 := h.fk
  have hcut := h.cut
  rw [drop_at (by omega), hc, drop_at hk, cut_esc, show k + 1 + 1 = k + 2 from rfl] at hcut
  exact ⟨by omega, by omega, by omega, h.len, h.each, h.all⟩
theorem PL.escEnd {l : List UInt8} {R : List (List UInt8)} {f k : Nat} (h : PL l R f true k) (hk : k + 1 = l.length) (hc : l[k] = 92) : PartsAre l (R ++ [l.drop f]) := by
  have h2 := h.fk
  have hcut := h.cut
  rw [drop_at (by omega), hc, List.drop_eq_nil_of_le (by omega)] at hcut
  have e : cutAt true [92] = 1 := rfl
  rw [e] at hcut
  exact h.last (fun e => by rw [e] at hk; simp at hk) (by omega)
theorem PL.quo {l : List UInt8} {R : List (List UInt8)} {f k : Nat} {b : Bool} (h : PL l R f b k) (hk : k < l.length) (hc : l[k] = 34) : PL l R f (!b) (k + 1) := by
  have h2 := h.fk
  have hcut := h.cut
  rw [drop_at hk, hc, cut_quo] at hcut
  exact ⟨by omega, by omega, by omega, h.len, h.each, h.all⟩
theorem PL.els {l : List UInt8} {R : List (List UInt8)} {f k : Nat} {b : Bool} (h : PL l R f b k) (hk : k < l.length) (h1 : ¬ (l[k] = 92 ∧ b = true)) (h2 : ¬ l[k] = 34) (h3 : ¬ (l[k] = 44 ∧ b = false)) : PL l R f b (k + 1) := by
  have hf := h.fk
  have hcut := h.cut
  rw [drop_at hk, cut_else _ h1 h2 h3] at hcut
  exact ⟨by omega, by omega, by omega, h.len, h.each, h.all⟩

set_option maxHeartbeats 4000000 in
theorem l1Parts_any (s : ByteArray) (w : World) (hs : s.size ≤ 1048576) :
    Calls Tryz.prog 50 #[.string s] w fun e w' => (∃ v R, e = .returned v ∧ w'.ownsRow w.heap.size 9 1 v R.length (strsV R) ∧ Hid (PartsAre s.data.toList R)) ∧ Below w.heap.size w w' := by
  have zs : s.data.toList.length = s.size := by simp
  obtain ⟨i0, hi, hz0, hz1, hz2⟩ := info_parts info_str
  by_cases h0 : s.size = 0
  · have xe : s.toList.isEmpty = true := by
      rw [ByteArray.toList_eq, List.length_eq_zero_iff.1 (zs.trans h0)]; rfl
    have pa := hide (show PartsAre s.data.toList [] from ⟨by simp, by simp, fun L hL => by
      have e : s.data.toList = [] := List.length_eq_zero_iff.1 (zs.trans h0)
      have h := hL.is
      rw [e] at h
      exact (join_nil (fun p hp => (hL.each p hp).2) h).symm, fun _ => rfl⟩)
    go_enter Tryz.func50, Tryz.ntmps50
    go_wp2_with fail
    go_ret
    exact ⟨⟨_, [], rfl, World.ownsRow_nil _ _ _ _, pa⟩, Below.refl _ _⟩
  have hne : s.data.toList ≠ [] := fun e => by rw [e] at zs; simp at zs; omega
  have NE := hide hne
  have xe : s.toList.isEmpty = false := by
    rw [ByteArray.toList_eq]
    cases h : s.data.toList with
    | nil => exact absurd h hne
    | cons _ _ => rfl
  clear hne
  go_enter Tryz.func50, Tryz.ntmps50
  go_wp2_with fail
  go_loopw [3, 4, 5, 6] (fun v f q i w' => ∃ (k F : Nat) (b : Bool) (R : List (List UInt8)), k ≤ s.size + 1 ∧ F ≤ k ∧ f = .int .i64 F ∧ q = .bool b ∧ i = .int .i64 k ∧ R.length ≤ s.size + 1 ∧ Hid (w'.ownsRow w.heap.size 9 1 v R.length (strsV R)) ∧ Hid (Below w.heap.size w w') ∧ Hid (PL s.data.toList R F b k ∨ (k = s.size + 1 ∧ PartsAre s.data.toList R))) (fun _ _ _ i _ => s.size + 2 - (intOf i).toNat)
  case atStart => exact ⟨0, 0, false, [], by omega, by omega, rfl, rfl, rfl, by simp, hide (World.ownsRow_nil _ _ _ _), hide (Below.refl _ _), hide (.inl (PL.start _))⟩
  case round =>
    obtain ⟨k, F, b, R, hk1, hF, rfl, rfl, rfl, hR, hown, hb, hpl⟩ := hrel
    by_cases hle : k ≤ s.size
    · have pl : Hid (PL s.data.toList R F b k) := hide (by
        rcases unhide hpl with h | ⟨h, _⟩
        · exact h
        · omega)
      have lenR := (unhide pl).len
      clear hpl
      have em := mid_bytes s F k
      have x0 : (F : Int) ≤ (k : Int) := by omega
      have x1 : (k : Int) ≤ (s.size : Int) := by omega
      by_cases hend : k = s.size
      · subst hend
        have st := hide (show PL s.data.toList (R ++ [(s.data.toList.drop F).take (s.size - F)]) (s.size + 1) b (s.size + 1) ∨ (s.size + 1 = s.size + 1 ∧ PartsAre s.data.toList (R ++ [(s.data.toList.drop F).take (s.size - F)])) from .inr ⟨rfl, by
          have h := unhide pl
          rw [← zs] at h ⊢
          exact h.fin (unhide NE)⟩)
        clear pl
        go_wp2_with (at_builtin; refine wpList_append_own_at _ rfl _ _ 25 rfl w.heap.size 9 i0 _ 1 16 Tryz.underlying25 hi hz0 hz1 hz2 rfl (by decide) _ _ _ rfl ((unhide hown).alloc _) ⟨_, 0, none⟩ 1 1 [.string _] rfl rfl (cell_one_new _ _ _) (fun x hx => by simp at hx; subst hx; rfl) (by unfold maxLen; omega) (by omega) (by have := (unhide hb).size; simp; omega) ?_; intro v3 w3 hown3 hgrow3 _ hat3)
        refine ⟨⟨s.size + 1, s.size + 1, b, R ++ [(s.data.toList.drop F).take (s.size - F)], by omega, by omega, by simp, rfl, by simp, by simp; omega, hide ?_, hide ((bAl (unhide hb) _).grown hgrow3 (by have := (unhide hb).size; simp; omega) (fun j hj => ((unhide hown).lt j hj).1)), st⟩, by simp [intOf]⟩
        simpa [strsV] using hown3
      · have hk : k < s.size := by omega
        obtain ⟨c, hc⟩ : ∃ c, s[k] = c := ⟨_, rfl⟩
        have lc : s.data.toList[k]'(by omega) = c := by rw [← hc]; rfl
        have xe2 : ((k : Int) == (s.size : Int)) = false := by rw [beq_eq_false_iff_ne]; omega
        have e92 : ((c.toNat : Int) == 92) = decide (c = 92) := u8_is (n := 92) (by decide)
        have e34 : ((c.toNat : Int) == 34) = decide (c = 34) := u8_is (n := 34) (by decide)
        have e44 : ((c.toNat : Int) == 44) = decide (c = 44) := u8_is (n := 44) (by decide)
        by_cases p44 : c = 44 ∧ b = false
        · obtain ⟨p, rfl⟩ := p44
          have st := hide (show PL s.data.toList (R ++ [(s.data.toList.drop F).take (k - F)]) (k + 1) false (k + 1) ∨ (k + 1 = s.size + 1 ∧ PartsAre s.data.toList (R ++ [(s.data.toList.drop F).take (k - F)])) from .inl ((unhide pl).com (by omega) (by rw [lc, p])))
          rw [decide_eq_true p] at e44
          clear pl lc p e92 e34
          go_wp2_with (at_builtin; refine wpList_append_own_at _ rfl _ _ 25 rfl w.heap.size 9 i0 _ 1 16 Tryz.underlying25 hi hz0 hz1 hz2 rfl (by decide) _ _ _ rfl ((unhide hown).alloc _) ⟨_, 0, none⟩ 1 1 [.string _] rfl rfl (cell_one_new _ _ _) (fun x hx => by simp at hx; subst hx; rfl) (by unfold maxLen; omega) (by omega) (by have := (unhide hb).size; simp; omega) ?_; intro v3 w3 hown3 hgrow3 _ hat3)
          refine ⟨⟨k + 1, k + 1, false, R ++ [(s.data.toList.drop F).take (k - F)], by omega, by omega, by simp, rfl, by simp, by simp; omega, hide ?_, hide ((bAl (unhide hb) _).grown hgrow3 (by have := (unhide hb).size; simp; omega) (fun j hj => ((unhide hown).lt j hj).1)), st⟩, by simp [intOf]; omega⟩
          simpa [strsV] using hown3
        by_cases p92 : c = 92 ∧ b = true
        · obtain ⟨p, rfl⟩ := p92
          rw [decide_eq_true p] at e92
          rw [decide_eq_false (by rw [p]; decide)] at e44
          by_cases hlast : k + 1 = s.size
          · have pa := hide ((unhide pl).escEnd (by omega) (by rw [lc, p]))
            have eD : s.extract F s.size = ⟨(s.data.toList.drop F).toArray⟩ := cut_drop s F
            have yl : ((k : Int) + 1 == (s.size : Int)) = true := by rw [beq_iff_eq]; omega
            clear pl lc p e34 em
            go_wp2_with (at_builtin; refine wpList_append_own_at _ rfl _ _ 25 rfl w.heap.size 9 i0 _ 1 16 Tryz.underlying25 hi hz0 hz1 hz2 rfl (by decide) _ _ _ rfl ((unhide hown).alloc _) ⟨_, 0, none⟩ 1 1 [.string _] rfl rfl (cell_one_new _ _ _) (fun x hx => by simp at hx; subst hx; rfl) (by unfold maxLen; omega) (by omega) (by have := (unhide hb).size; simp; omega) ?_; intro v3 w3 hown3 hgrow3 _ hat3)
            obtain ⟨a3, c3, e3⟩ := own_sl hown3
            subst e3
            go_ret
            refine ⟨⟨_, R ++ [s.data.toList.drop F], rfl, ?_, pa⟩, unhide (hide ((bAl (unhide hb) _).grown hgrow3 (by have := (unhide hb).size; simp; omega) (fun j hj => ((unhide hown).lt j hj).1)))⟩
            simpa [strsV, eD] using hown3
          · have st := hide (show PL s.data.toList R F true (k + 2) ∨ (k + 2 = s.size + 1 ∧ PartsAre s.data.toList R) from .inl ((unhide pl).esc (by omega) (by rw [lc, p])))
            have yl : ((k : Int) + 1 == (s.size : Int)) = false := by rw [beq_eq_false_iff_ne]; omega
            clear pl lc p e34
            go_wp2_with fail
            exact ⟨⟨k + 2, F, true, R, by omega, by omega, rfl, rfl, by go_num, hR, hown, hb, st⟩, by simp [intOf]; omega⟩
        by_cases p34 : c = 34
        · have st := hide (show PL s.data.toList R F (!b) (k + 1) ∨ (k + 1 = s.size + 1 ∧ PartsAre s.data.toList R) from .inl ((unhide pl).quo (by omega) (by rw [lc, p34])))
          rw [decide_eq_true p34] at e34
          rw [decide_eq_false (by rw [p34]; decide)] at e92 e44
          clear pl lc p34 p92 p44
          cases b
          all_goals
            go_wp2_with fail
            exact ⟨⟨k + 1, F, _, R, by omega, by omega, rfl, rfl, by simp, hR, hown, hb, st⟩, by simp [intOf]; omega⟩
        · have st := hide (show PL s.data.toList R F b (k + 1) ∨ (k + 1 = s.size + 1 ∧ PartsAre s.data.toList R) from .inl ((unhide pl).els (by omega) (by rw [lc]; exact p92) (by rw [lc]; exact p34) (by rw [lc]; exact p44)))
          rw [decide_eq_false p34] at e34
          clear pl lc p34
          cases b
          · have p : ¬ c = 44 := fun h => p44 ⟨h, rfl⟩
            rw [decide_eq_false p] at e44
            clear p92 p44
            by_cases q92 : c = 92
            · rw [decide_eq_true q92] at e92
              clear q92 p
              go_wp2_with fail
              exact ⟨⟨k + 1, F, _, R, by omega, by omega, rfl, rfl, by simp, hR, hown, hb, st⟩, by simp [intOf]; omega⟩
            · rw [decide_eq_false q92] at e92
              clear q92 p
              go_wp2_with fail
              exact ⟨⟨k + 1, F, _, R, by omega, by omega, rfl, rfl, by simp, hR, hown, hb, st⟩, by simp [intOf]; omega⟩
          · have p : ¬ c = 92 := fun h => p92 ⟨h, rfl⟩
            rw [decide_eq_false p] at e92
            clear p92 p44
            by_cases q44 : c = 44
            · rw [decide_eq_true q44] at e44
              clear q44 p
              go_wp2_with fail
              exact ⟨⟨k + 1, F, _, R, by omega, by omega, rfl, rfl, by simp, hR, hown, hb, st⟩, by simp [intOf]; omega⟩
            · rw [decide_eq_false q44] at e44
              clear q44 p
              go_wp2_with fail
              exact ⟨⟨k + 1, F, _, R, by omega, by omega, rfl, rfl, by simp, hR, hown, hb, st⟩, by simp [intOf]; omega⟩
    · have pa := hide (show PartsAre s.data.toList R by
        rcases unhide hpl with h | ⟨_, h⟩
        · have := h.kl; omega
        · exact h)
      clear hpl
      obtain ⟨a3, c3, e3⟩ := own_sl (unhide hown)
      subst e3
      go_wp2_with fail
      go_ret
      exact ⟨⟨_, R, rfl, unhide hown, pa⟩, unhide hb⟩
end Go.Proofs.YticidjceljjfnaaGreatDoor.V
