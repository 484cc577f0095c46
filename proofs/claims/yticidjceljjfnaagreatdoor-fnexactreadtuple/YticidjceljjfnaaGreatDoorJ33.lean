/- BSet, BRec, one behind the other. -/
import Derived.Test.YticidjceljjfnaaGreatDoorJ32
/- impl.guessSet. -/
namespace Go.Proofs.YticidjceljjfnaaGreatDoor.V
open Go.RowKit
set_option maxRecDepth 20000

def cellsA (a : AtomT) : List Value := [.int .i64 a.x, .int .i64 a.n, .string a.t, .string a.y]
def atomsV (l : List AtomT) : List Value := l.flatMap cellsA
def zV (k : Int) (v1 v2 : Value) : Array Value := #[.int .i64 k, .int .i64 0, .int .i64 0, .string ⟨#[]⟩, .string ⟨#[]⟩, v1, v2]

theorem info_atom : (Tryz.prog.info? 32).map (fun i => (i.zero, i.size, i.bytes)) = some (some (.agg #[.int .i64 0, .int .i64 0, .string ByteArray.empty, .string ByteArray.empty]), 4, 48) := by kernel_rfl
theorem cell_four_new (w : World) (L : List Value) (t : TypeId) : ∀ j u, L[j]? = some u → (w.alloc (.cells L.toArray t)).cell? ((⟨w.heap.size, 0, none⟩ : Addr).add j) = some u := by
  intro j u h
  have e : (⟨w.heap.size, 0, none⟩ : Addr).add j = ⟨w.heap.size, j, none⟩ := by simp [Addr.add]; omega
  have := (RowIs.new w L.toArray t).cell j
  rw [e, this]
  simpa using h
theorem RowIs.grown {w w' : World} {b : Nat} {C : Array Value} {T : TypeId} {r : Option Nat} (h : RowIs w b C T) (hg : w.grownBy w' r) (hne : some b ≠ r) : RowIs w' b C T := by
  have hl := h.lt
  unfold RowIs at *; rw [hg.block b hl hne]; exact h
theorem own_set {w : World} {base e size n b o : Nat} {v u : Value} {xs : List Value} (h : w.ownsRow base e size v n xs) (hne : ∀ g, v.ownBlock = some g → g ≠ b) : (w.setCell ⟨b, o, none⟩ u).ownsRow base e size v n xs := by
  refine ⟨h.1, ?_⟩
  rcases h.2 with h2 | ⟨g, cap, cur, hv, h3, h4, h5⟩
  · exact .inl h2
  · exact .inr ⟨g, cap, cur, hv, h3, by rw [heap_setCell_other w ⟨b, o, none⟩ g u (hne g (by rw [hv]; rfl))]; exact h4, h5⟩
theorem atomsV_snoc (l : List AtomT) (a : AtomT) : atomsV (l ++ [a]) = atomsV l ++ cellsA a := by simp [atomsV]
theorem own_base {w : World} {base base' e size n : Nat} {v : Value} {xs : List Value} (h : w.ownsRow base e size v n xs) (hb : base' ≤ base) : w.ownsRow base' e size v n xs := by
  refine ⟨h.1, ?_⟩
  rcases h.2 with h2 | ⟨g, cap, cur, hv, h3, h4⟩
  · exact .inl h2
  · exact .inr ⟨g, cap, cur, hv, Nat.le_trans hb h3, h4⟩
theorem own_set7 {w : World} {base base' e size n b : Nat} {v u0 u1 u2 u3 u4 u5 u6 : Value} {xs : List Value} (h : w.ownsRow base e size v n xs) (hb : base' ≤ base) (hne : b < base) :
    (((((((w.setCell ⟨b, 0, none⟩ u0).setCell ⟨b, 1, none⟩ u1).setCell ⟨b, 2, none⟩ u2).setCell ⟨b, 3, none⟩ u3).setCell ⟨b, 4, none⟩ u4).setCell ⟨b, 5, none⟩ u5).setCell ⟨b, 6, none⟩ u6).ownsRow base' e size v n xs := by
  have ne : ∀ g, v.ownBlock = some g → g ≠ b := fun g e => by have := (h.lt g e).1; omega
  exact own_base (own_set (own_set (own_set (own_set (own_set (own_set (own_set h ne) ne) ne) ne) ne) ne) ne) hb
theorem below_set7 {B b : Nat} {w w' : World} {u0 u1 u2 u3 u4 u5 u6 : Value} (h : Below B w w') (hb : B ≤ b) :
    Below B w (((((((w'.setCell ⟨b, 0, none⟩ u0).setCell ⟨b, 1, none⟩ u1).setCell ⟨b, 2, none⟩ u2).setCell ⟨b, 3, none⟩ u3).setCell ⟨b, 4, none⟩ u4).setCell ⟨b, 5, none⟩ u5).setCell ⟨b, 6, none⟩ u6) :=
  below_set (below_set (below_set (below_set (below_set (below_set (below_set h hb) hb) hb) hb) hb) hb) hb
/-- What has been read of each piece. -/
structure RdOf (R : List (List UInt8)) (I : List AtomT) : Prop where
  le : I.length ≤ R.length
  each : ∀ j (h : j < I.length) (h2 : j < R.length), ∃ ok, AtmIs R[j] I[j].x I[j].n I[j].t I[j].y ok
theorem RdOf.nil (R : List (List UInt8)) : RdOf R [] := ⟨by simp, fun j h => by simp at h⟩
theorem RdOf.step {R : List (List UInt8)} {I : List AtomT} {p : List UInt8} {a : AtomT} {ok : Bool} (h : RdOf R I) (hk : I.length < R.length) (hp : R[I.length] = p) (ha : AtmIs p a.x a.n a.t a.y ok) : RdOf R (I ++ [a]) := by
  refine ⟨by simp; omega, fun j h1 h2 => ?_⟩
  by_cases e : j < I.length
  · obtain ⟨ok', h3⟩ := h.each j e h2
    exact ⟨ok', by rw [List.getElem_append_left e]; exact h3⟩
  · have ej : j = I.length := by simp at h1; omega
    subst ej
    exact ⟨ok, by rw [hp]; simpa using ha⟩
theorem good_ok {a : AtomT} (hg : a.good = true) (h0 : -9223372036854775808 ≤ a.n) (h1 : a.n ≤ 9223372036854775807) : a.Ok := by
  have hs := shape (k := a.x) (n := a.n) (t := a.t) (y := a.y) hg
  have z : (eB : ByteArray).size ≤ maxLen := by unfold maxLen; decide
  have ht : a.x = 3 ∨ a.x = 4 → a.t.size ≤ maxLen := fun hk => by
    have := good_text hg hk
    unfold maxLen; omega
  cases hs with
  | tru _ _ t y _ => exact ⟨h0, h1, by rw [t]; exact z, by rw [y]; exact z⟩
  | fal _ _ t y _ => exact ⟨h0, h1, by rw [t]; exact z, by rw [y]; exact z⟩
  | num _ t y _ => exact ⟨h0, h1, by rw [t]; exact z, by rw [y]; exact z⟩
  | txt k _ y _ => exact ⟨h0, h1, ht (.inl k), by rw [y]; exact z⟩
  | ref k _ _ _ => exact ⟨h0, h1, ht (.inr k), by
      have hg' : goodAtom 4 a.n a.t a.y = true := by rw [← k]; exact hg
      have := good_type hg'
      unfold maxLen; omega⟩
  | dec _ t y _ => exact ⟨h0, h1, by rw [t]; exact z, by rw [y]; exact z⟩
  | adr _ t y _ _ _ _ _ => exact ⟨h0, h1, by rw [t]; exact z, by rw [y]; exact z⟩
  | tim _ t y _ => exact ⟨h0, h1, by rw [t]; exact z, by rw [y]; exact z⟩
theorem atm_ok {l : List UInt8} {x n : Int} {t y : ByteArray} {ok : Bool} (h : AtmIs l x n t y ok) : AtomT.Ok ⟨x, n, t, y⟩ := by
  cases ok with
  | true =>
    obtain ⟨g, _, h0, h1⟩ := h.yes rfl
    exact good_ok (a := ⟨x, n, t, y⟩) g h0 h1
  | false =>
    obtain ⟨rfl, rfl, rfl, rfl⟩ := h.zero rfl
    exact ⟨by decide, by decide, by unfold maxLen; decide, by unfold maxLen; decide⟩
/-- What was read is what the pieces say. -/
theorem RdOf.is {R : List (List UInt8)} {I A : List AtomT} (h : RdOf R I) (hl : I.length = R.length) (e : R = A.map AtomT.l) (hg : ∀ a ∈ A, a.good = true ∧ a.Ok) : I = A := by
  have el : I.length = A.length := by rw [hl, e, List.length_map]
  apply List.ext_getElem el
  intro j h1 h2
  obtain ⟨ok, ha⟩ := h.each j h1 (by omega)
  have ep : R[j]'(by omega) = (A[j]).l := by simp [e]
  rw [ep] at ha
  obtain ⟨g, o⟩ := hg A[j] (List.getElem_mem _)
  obtain ⟨_, a, b, c, d⟩ := ha.all _ _ _ _ g o.n8 o.n9 rfl
  cases hI : I[j] with
  | mk x n t y =>
    rw [hI] at a b c d
    simp only at a b c d
    rw [a, b, c, d]
/-- The result's block and a value's box. -/
structure Two (w0 w : World) (k : Int) (v1 v2 : Value) : Prop where
  r : RowIs w w0.heap.size (zV 0 (.slice none 0 0) (.slice none 0 0)) 35
  b : RowIs w (w0.heap.size + 1) (zV k v1 v2) 35
theorem Two.keep {w0 w w' : World} {k : Int} {v1 v2 : Value} (h : Two w0 w k v1 v2) (hb : Below w.heap.size w w') : Two w0 w' k v1 v2 := ⟨h.r.keep hb, h.b.keep hb⟩
theorem Two.grown {w0 w w' : World} {k : Int} {v1 v2 : Value} {r : Option Nat} (h : Two w0 w k v1 v2) (hg : w.grownBy w' r) (hne : ∀ g, r = some g → w0.heap.size + 1 < g) : Two w0 w' k v1 v2 :=
  ⟨h.r.grown hg (fun e => by have := hne _ e.symm; omega), h.b.grown hg (fun e => by have := hne _ e.symm; omega)⟩
theorem Two.set1 {w0 w : World} {k : Int} {v1 v2 : Value} (h : Two w0 w k v1 v2) (u : Value) : Two w0 (w.setCell ⟨w0.heap.size + 1, 5, none⟩ u) k u v2 :=
  ⟨h.r.setOther u (by omega), by have := h.b.set 5 u; exact this⟩
theorem Two.set2 {w0 w : World} {k : Int} {v1 v2 : Value} (h : Two w0 w k v1 v2) (u : Value) : Two w0 (w.setCell ⟨w0.heap.size + 1, 6, none⟩ u) k v1 u :=
  ⟨h.r.setOther u (by omega), by have := h.b.set 6 u; exact this⟩
theorem two_new (w : World) (k : Int) {w1 : World} (hb : Below ((w.alloc (.cells (zV 0 (.slice none 0 0) (.slice none 0 0)) 35)).alloc (.cells (zV k (.slice none 0 0) (.slice none 0 0)) 35)).heap.size ((w.alloc (.cells (zV 0 (.slice none 0 0) (.slice none 0 0)) 35)).alloc (.cells (zV k (.slice none 0 0) (.slice none 0 0)) 35)) w1) : Two w w1 k (.slice none 0 0) (.slice none 0 0) := by
  have h1 := (RowIs.new w (zV 0 (.slice none 0 0) (.slice none 0 0)) 35).keep (bAl (Below.refl _ _) (.cells (zV k (.slice none 0 0) (.slice none 0 0)) 35))
  have h2 := RowIs.new (w.alloc (.cells (zV 0 (.slice none 0 0) (.slice none 0 0)) 35)) (zV k (.slice none 0 0) (.slice none 0 0)) 35
  exact ⟨h1.keep hb, by have := h2.keep hb; simpa using this⟩
theorem two_below (w : World) (k : Int) {w1 : World} (hb : Below ((w.alloc (.cells (zV 0 (.slice none 0 0) (.slice none 0 0)) 35)).alloc (.cells (zV k (.slice none 0 0) (.slice none 0 0)) 35)).heap.size ((w.alloc (.cells (zV 0 (.slice none 0 0) (.slice none 0 0)) 35)).alloc (.cells (zV k (.slice none 0 0) (.slice none 0 0)) 35)) w1) : Below w.heap.size w w1 :=
  bTr (bAl (bAl (Below.refl w.heap.size w) _) _) hb

set_option maxHeartbeats 2000000 in
theorem guessSet_any (s : ByteArray) (w : World) (hs : s.size ≤ 1048576) (hz : 1 ≤ s.size) (hE : Env w) :
    Calls Tryz.prog 110 #[.string s] w fun e w' => (∃ v1 I, e = .returned (.agg #[.int .i64 2, .int .i64 0, .int .i64 0, .string ⟨#[]⟩, .string ⟨#[]⟩, v1, .slice none 0 0]) ∧ w'.ownsRow w.heap.size 32 4 v1 I.length (atomsV I) ∧ Hid (∃ R, ItemsAre s.data.toList R ∧ RdOf R I ∧ I.length = R.length)) ∧ Below w.heap.size w w' := by
  have q1 := hide (fun w => guessItems_any s w hs hz)
  have HE := hide hE
  obtain ⟨i0, hi, hz0, hz1, hz2⟩ := info_parts info_atom
  clear hE
  go_enter Tryz.func110, Tryz.ntmps110
  go_wp2_with fail
  refine (unhide q1 _).mono ?_
  rintro e w1 ⟨⟨v, R, rfl, hown, hit⟩, hb1⟩
  have HR := hide (two_new w 2 hb1)
  have B1 := hide (two_below w 2 hb1)
  have HE1 := hide ((unhide HE).keep (unhide B1))
  have hbs := hide hown
  obtain ⟨av, cv, ev⟩ := own_sl hown
  subst ev
  clear hown hb1 q1
  have hRl := (unhide hit).len
  have lt1 : w.heap.size + 1 < w1.heap.size := (unhide HR).b.lt
  go_wp2_with fail
  go_loopw [12] (fun i w' => ∃ (k : Nat) (I : List AtomT) (v1 : Value), k ≤ R.length ∧ i = .int .i64 k ∧ I.length = k ∧ w1.heap.size ≤ w'.heap.size ∧ Hid (Two w w' 2 v1 (.slice none 0 0)) ∧ Hid (w'.ownsRow w1.heap.size 32 4 v1 k (atomsV I)) ∧ Hid (Below w.heap.size w w') ∧ Hid (w'.ownsRow (w.heap.size + 1 + 1) 9 1 (.slice av R.length cv) R.length (strsV R)) ∧ Hid (RdOf R I)) (fun i _ => R.length - (intOf i).toNat)
  case atStart => exact ⟨0, [], _, by omega, rfl, rfl, Nat.le_refl _, HR, hide (World.ownsRow_nil _ _ _ _), B1, hide (by simpa using unhide hbs), hide (RdOf.nil R)⟩
  case round =>
    obtain ⟨k, I, v1, hk, rfl, hI, hw1, hR, hown, hb, hrow, hrd⟩ := hrel
    by_cases hlt : k < R.length
    · rcases (unhide hrow).2 with ⟨_, e2⟩ | ⟨g, cap, cur, hv, hgb, hgc, hn1, hn2, hcs, htk⟩
      · omega
      obtain ⟨p, hp⟩ : ∃ p, R[k] = p := ⟨_, rfl⟩
      have ck : wr.cell? ⟨g, k, none⟩ = some (.string ⟨p.toArray⟩) := by rw [← hp]; exact own_cell hgc htk k hlt
      injection hv with hv1 hv2 hv3
      subst hv1 hv3
      have zp : p.length ≤ s.size := by
        have := (unhide hit).each p (by rw [← hp]; exact List.getElem_mem _)
        simpa using this
      have q2 := hide (fun w h => iReadAtom_any ⟨p.toArray⟩ w (by rw [sz_arr]; omega) h)
      have HEr := hide ((unhide HE).keep (unhide hb))
      clear hgc htk hcs
      go_wp2_with fail
      refine (unhide q2 _ (unhide HEr)).mono ?_
      rintro e w2 ⟨⟨x, n, t, y, ok, rfl, ha⟩, hb2⟩
      obtain ⟨C4, hC4⟩ : ∃ C4 : List Value, C4 = cellsA ⟨x, n, t, y⟩ := ⟨_, rfl⟩
      have ba := bAl (Below.refl w2.heap.size w2) (.cells #[.int .i64 x, .int .i64 n, .string t, .string y] 32)
      have R3 := hide (((unhide hR).keep hb2).keep ba)
      have O3 := hide ((own_keepT (unhide hown) hb2).alloc (.cells #[.int .i64 x, .int .i64 n, .string t, .string y] 32))
      have S3 := hide ((own_keepT (unhide hrow) hb2).alloc (.cells #[.int .i64 x, .int .i64 n, .string t, .string y] 32))
      have B3 := hide (bTr (bTr (unhide hb) hb2) ba)
      have b3 : wr.heap.size ≤ w2.heap.size := hb2.size
      obtain ⟨a1, c1, e1⟩ := own_sl (unhide hown)
      subst e1
      have c5 := (unhide R3).b.at (o := 5) (v := .slice a1 k c1) rfl
      have f5 := (unhide R3).b.froz 5
      have rd4 := hide ((unhide hrd).step (a := ⟨x, n, t, y⟩) (by omega) (by simp only [hI]; exact hp) ha)
      clear hrd hp
      clear ha hb2 q2 ck ba
      have t1 := hide ((unhide O3).alloc (.cells #[.int .i64 x, .int .i64 n, .string t, .string y] 32))
      have t2 := hide (cell_four_new (w2.alloc (.cells #[.int .i64 x, .int .i64 n, .string t, .string y] 32)) (cellsA ⟨x, n, t, y⟩) 32)
      have es : (w2.alloc (.cells #[.int .i64 x, .int .i64 n, .string t, .string y] 32)).heap.size = w2.heap.size + 1 := by simp
      rw [es] at t2
      clear es
      have t3 : ∀ u ∈ cellsA ⟨x, n, t, y⟩, u.oneCell' = true := (fun u hu => by simp [cellsA] at hu; rcases hu with rfl | rfl | rfl | rfl <;> rfl)
      have T3 := hide t3
      have t4 : w1.heap.size ≤ ((w2.alloc (.cells #[.int .i64 x, .int .i64 n, .string t, .string y] 32)).alloc (.cells #[.int .i64 x, .int .i64 n, .string t, .string y] 32)).heap.size := by simp; omega
      have T4 := hide t4
      have t5 : (k + 1) * 48 ≤ 140737488355328 := by omega
      clear t3 t4
      go_wp2_with (at_builtin; refine wpList_append_own_at _ rfl _ _ 33 rfl w1.heap.size 32 i0 _ 4 48 Tryz.underlying33 hi hz0 hz1 hz2 rfl (by decide) _ _ _ rfl (unhide t1) ⟨_, 0, none⟩ 1 1 (cellsA ⟨x, n, t, y⟩) rfl rfl (unhide t2) (unhide T3) (by unfold maxLen; omega) t5 (unhide T4) ?_; intro v3 w3 hown3 hgrow3 _ hat3; obtain ⟨av3, cv3, ev3⟩ := own_sl hown3; subst ev3; have ne1 : ∀ g, (Value.slice a1 k c1).ownBlock = some g → w.heap.size + 1 < g := (fun g e => by have := ((unhide O3).lt g e).1; omega); have R4 := hide ((((unhide R3).keep (bAl (Below.refl _ _) (.cells #[.int .i64 x, .int .i64 n, .string t, .string y] 32))).grown hgrow3 ne1)); have d5 := (unhide R4).b.at (o := 5) (v := .slice a1 k c1) rfl; have h5 := (unhide R4).b.froz 5)
      have gl : g < w1.heap.size := ((unhide hbs).lt g rfl).2
      have sz3 : w2.heap.size ≤ w3.heap.size := by have := hgrow3.size; simp at this; omega
      refine ⟨⟨k + 1, I ++ [⟨x, n, t, y⟩], _, by omega, by simp, by simp [hI], by simp [World.setCell]; omega, hide ((unhide R4).set1 _), hide ?_, hide ?_, hide ?_, rd4⟩, by simp [intOf]; omega⟩
      · rw [atomsV_snoc]
        exact own_set hown3 (fun g' e => by have := (hown3.lt g' e).1; omega)
      · exact below_set ((bAl (unhide B3) _).grown hgrow3 (by have := (unhide B3).size; simp; omega) (fun j hj => by have := ne1 j hj; omega)) (by omega)
      · refine own_set (((unhide S3).alloc _).kept hgrow3 (.inr (fun e => ?_))) (fun g' e => ?_)
        · have := ((unhide O3).lt g e.symm).1
          omega
        · have := ((unhide S3).lt g' e).1
          omega
    · have R3 := unhide hR
      have j0 := R3.b.at (o := 0) (v := .int .i64 2) rfl
      have j1 := R3.b.at (o := 1) (v := .int .i64 0) rfl
      have j2 := R3.b.at (o := 2) (v := .int .i64 0) rfl
      have j3 := R3.b.at (o := 3) (v := .string ⟨#[]⟩) rfl
      have j4 := R3.b.at (o := 4) (v := .string ⟨#[]⟩) rfl
      have j5 := R3.b.at (o := 5) (v := v1) rfl
      have j6 := R3.b.at (o := 6) (v := .slice none 0 0) rfl
      have d0 := R3.r.at (o := 0) (v := .int .i64 0) rfl
      have d1 := R3.r.at (o := 1) (v := .int .i64 0) rfl
      have d2 := R3.r.at (o := 2) (v := .int .i64 0) rfl
      have d3 := R3.r.at (o := 3) (v := .string ⟨#[]⟩) rfl
      have d4 := R3.r.at (o := 4) (v := .string ⟨#[]⟩) rfl
      have d5 := R3.r.at (o := 5) (v := .slice none 0 0) rfl
      have d6 := R3.r.at (o := 6) (v := .slice none 0 0) rfl
      have f0 := R3.r.froz 0
      have f1 := R3.r.froz 1
      have f2 := R3.r.froz 2
      have f3 := R3.r.froz 3
      have f4 := R3.r.froz 4
      have f5 := R3.r.froz 5
      have f6 := R3.r.froz 6
      obtain ⟨a5, c5, e5⟩ := own_sl (unhide hown)
      subst e5
      clear R3
      have ek : k = R.length := by omega
      have fin := hide (show ∃ R', ItemsAre s.data.toList R' ∧ RdOf R' I ∧ I.length = R'.length from ⟨R, unhide hit, unhide hrd, by omega⟩)
      clear hrd ek
      go_wp2_with fail
      refine bodyPost_ret (v := .agg #[.int .i64 2, .int .i64 0, .int .i64 0, .string ⟨#[]⟩, .string ⟨#[]⟩, .slice a5 k c5, .slice none 0 0]) (by simp [results, Tryz.results110, go_sem, d0, d1, d2, d3, d4, d5, d6]) rfl ⟨⟨_, I, rfl, ?_, fin⟩, below_set7 (unhide hb) (Nat.le_refl _)⟩
      rw [hI]
      exact own_set7 (unhide hown) (by omega) (by omega)
end Go.Proofs.YticidjceljjfnaaGreatDoor.V
/- impl.guessRecord. -/
namespace Go.Proofs.YticidjceljjfnaaGreatDoor.V
open Go.RowKit
set_option maxRecDepth 20000

/-- What has been read of each piece of a record. -/
structure RdRec (R N : List (List UInt8)) (I : List AtomT) : Prop where
  le : I.length ≤ R.length
  ln : N.length = I.length
  each : ∀ j (h : j < I.length) (h2 : j < R.length) (h3 : j < N.length), N[j] = (cutC 58 R[j]).1 ∧ ∃ ok, AtmIs (cutC 58 R[j]).2 I[j].x I[j].n I[j].t I[j].y ok
theorem RdRec.nil (R : List (List UInt8)) : RdRec R [] [] := ⟨by simp, rfl, fun j h => by simp at h⟩
theorem RdRec.step {R N : List (List UInt8)} {I : List AtomT} {p : List UInt8} {a : AtomT} {ok : Bool} (h : RdRec R N I) (hk : I.length < R.length) (hp : R[I.length] = p) (ha : AtmIs (cutC 58 p).2 a.x a.n a.t a.y ok) : RdRec R (N ++ [(cutC 58 p).1]) (I ++ [a]) := by
  have hl := h.ln
  refine ⟨by simp; omega, by simp [hl], fun j h1 h2 h3 => ?_⟩
  by_cases e : j < I.length
  · have h4 := h.each j e h2 (by omega)
    rw [List.getElem_append_left e, List.getElem_append_left (by omega)]
    exact h4
  · have ej : j = I.length := by simp at h1; omega
    subst ej
    refine ⟨?_, ok, ?_⟩
    · rw [hp, List.getElem_append_right (by omega)]; simp [hl]
    · rw [hp]; simpa using ha
theorem own_or {v u : Value} (h : ∀ g, v.ownBlock = some g → u.ownBlock ≠ some g) : v.ownBlock = none ∨ v.ownBlock ≠ u.ownBlock := by
  cases e : v.ownBlock with
  | none => exact .inl rfl
  | some g => exact .inr (fun e2 => h g e e2.symm)
theorem cut_len (c : UInt8) (l : List UInt8) : (cutC c l).1.length ≤ l.length ∧ (cutC c l).2.length ≤ l.length := by
  unfold cutC
  split
  · simp only [List.length_take, List.length_drop]; omega
  · simp

set_option maxHeartbeats 4000000 in
theorem guessRecord_any (s : ByteArray) (w : World) (hs : s.size ≤ 1048576) (hz : 1 ≤ s.size) (hE : Env w) :
    Calls Tryz.prog 111 #[.string s] w fun e w' => (∃ v1 v2 I N, e = .returned (.agg #[.int .i64 3, .int .i64 0, .int .i64 0, .string ⟨#[]⟩, .string ⟨#[]⟩, v1, v2]) ∧ w'.ownsRow w.heap.size 32 4 v1 I.length (atomsV I) ∧ w'.ownsRow w.heap.size 9 1 v2 N.length (strsV N) ∧ (∀ g, v1.ownBlock = some g → v2.ownBlock ≠ some g) ∧ Hid (∃ R, ItemsAre s.data.toList R ∧ RdRec R N I ∧ I.length = R.length)) ∧ Below w.heap.size w w' := by
  have q1 := hide (fun w => guessItems_any s w hs hz)
  have HE := hide hE
  obtain ⟨i0, hi, hz0, hz1, hz2⟩ := info_parts info_atom
  obtain ⟨i1, gi, gz0, gz1, gz2⟩ := info_parts info_str
  clear hE
  go_enter Tryz.func111, Tryz.ntmps111
  go_wp2_with fail
  refine (unhide q1 _).mono ?_
  rintro e w1 ⟨⟨v, R, rfl, hown, hit⟩, hb1⟩
  have HR := hide (two_new w 3 hb1)
  have B1 := hide (two_below w 3 hb1)
  have hbs := hide hown
  obtain ⟨av, cv, ev⟩ := own_sl hown
  subst ev
  clear hown hb1 q1
  have hRl := (unhide hit).len
  have lt1 : w.heap.size + 1 < w1.heap.size := (unhide HR).b.lt
  go_wp2_with fail
  go_loopw [15] (fun i w' => ∃ (k : Nat) (I : List AtomT) (N : List (List UInt8)) (v1 v2 : Value), k ≤ R.length ∧ i = .int .i64 k ∧ I.length = k ∧ N.length = k ∧ w1.heap.size ≤ w'.heap.size ∧ Hid (Two w w' 3 v1 v2) ∧ Hid (w'.ownsRow w1.heap.size 32 4 v1 k (atomsV I)) ∧ Hid (w'.ownsRow w1.heap.size 9 1 v2 k (strsV N)) ∧ Hid (∀ g, v1.ownBlock = some g → v2.ownBlock ≠ some g) ∧ Hid (Below w.heap.size w w') ∧ Hid (w'.ownsRow (w.heap.size + 1 + 1) 9 1 (.slice av R.length cv) R.length (strsV R)) ∧ Hid (RdRec R N I)) (fun i _ => R.length - (intOf i).toNat)
  case atStart => exact ⟨0, [], [], _, _, by omega, rfl, rfl, rfl, Nat.le_refl _, HR, hide (World.ownsRow_nil _ _ _ _), hide (World.ownsRow_nil _ _ _ _), hide (fun g h => by cases h), B1, hide (by simpa using unhide hbs), hide (RdRec.nil R)⟩
  case round =>
    obtain ⟨k, I, N, v1, v2, hk, rfl, hI, hN, hw1, hR, hown, hownN, hdj, hb, hrow, hrd⟩ := hrel
    by_cases hlt : k < R.length
    · rcases (unhide hrow).2 with ⟨_, e2⟩ | ⟨g, cap, cur, hv, hgb, hgc, hn1, hn2, hcs, htk⟩
      · omega
      obtain ⟨p, hp⟩ : ∃ p, R[k] = p := ⟨_, rfl⟩
      have ck : wr.cell? ⟨g, k, none⟩ = some (.string ⟨p.toArray⟩) := by rw [← hp]; exact own_cell hgc htk k hlt
      injection hv with hv1 hv2 hv3
      subst hv1 hv3
      have zp : p.length ≤ s.size := by
        have := (unhide hit).each p (by rw [← hp]; exact List.getElem_mem _)
        simpa using this
      have hcl := cut_len 58 p
      have q0 := hide (fun w => strCutC 58 ⟨p.toArray⟩ w (by rw [sz_arr]; omega))
      have stp := hide (fun (a : AtomT) (ok : Bool) (ha : AtmIs (cutC 58 p).2 a.x a.n a.t a.y ok) => (unhide hrd).step (by omega) (by simp only [hI]; exact hp) ha)
      simp only at q0
      generalize (cutC 58 p).1 = P1 at q0 stp hcl
      generalize (cutC 58 p).2 = P2 at q0 stp hcl
      have q2 := hide (fun w h => iReadAtom_any ⟨P2.toArray⟩ w (by rw [sz_arr]; omega) h)
      clear hgc htk hcs hrd hp
      go_wp2_with fail
      refine (unhide q0 _).mono ?_
      rintro e w2 ⟨⟨bb, rfl⟩, hb2⟩
      have B2 := hide (bTr (unhide hb) hb2)
      have HE2 := hide ((unhide HE).keep (unhide B2))
      replace hR := hide ((unhide hR).keep hb2)
      replace hown := hide (own_keepT (unhide hown) hb2)
      replace hownN := hide (own_keepT (unhide hownN) hb2)
      replace hrow := hide (own_keepT (unhide hrow) hb2)
      have sz2 : wr.heap.size ≤ w2.heap.size := hb2.size
      clear hb hb2 q0 ck
      go_wp2_with fail
      refine (unhide q2 _ (unhide HE2)).mono ?_
      rintro e w3 ⟨⟨x, n, t, y, ok, rfl, ha⟩, hb3⟩
      have l1 := hide (own_keepT (unhide hown) hb3).lt
      have l2 := hide (own_keepT (unhide hownN) hb3).lt
      have rd4 := hide (unhide stp ⟨x, n, t, y⟩ ok ha)
      have ba := bAl (Below.refl w3.heap.size w3) (.cells #[.int .i64 x, .int .i64 n, .string t, .string y] 32)
      have RA := hide (RowIs.new w3 #[.int .i64 x, .int .i64 n, .string t, .string y] 32)
      replace hR := hide (((unhide hR).keep hb3).keep ba)
      replace hown := hide ((own_keepT (unhide hown) hb3).alloc (.cells #[.int .i64 x, .int .i64 n, .string t, .string y] 32))
      replace hownN := hide ((own_keepT (unhide hownN) hb3).alloc (.cells #[.int .i64 x, .int .i64 n, .string t, .string y] 32))
      replace hrow := hide ((own_keepT (unhide hrow) hb3).alloc (.cells #[.int .i64 x, .int .i64 n, .string t, .string y] 32))
      have B3 := hide (bTr (bTr (unhide B2) hb3) ba)
      have sz3 : w2.heap.size ≤ w3.heap.size := hb3.size
      obtain ⟨W3, hW3⟩ : ∃ W3, W3 = w3.alloc (.cells #[.int .i64 x, .int .i64 n, .string t, .string y] 32) := ⟨_, rfl⟩
      have sW3 : W3.heap.size = w3.heap.size + 1 := by rw [hW3]; simp
      obtain ⟨a1, c1, e1⟩ := own_sl (unhide hown)
      subst e1
      obtain ⟨a2, c2, e2⟩ := own_sl (unhide hownN)
      subst e2
      have c6 := (unhide hR).b.at (o := 6) (v := .slice a2 k c2) rfl
      have f6 := (unhide hR).b.froz 6
      clear ha hb3 q2 ba stp B2 HE2
      have t1 := hide ((unhide hownN).alloc (.cells #[.string ⟨P1.toArray⟩] 9))
      have t2 := hide (cell_one_new (w3.alloc (.cells #[.int .i64 x, .int .i64 n, .string t, .string y] 32)) (.string ⟨P1.toArray⟩) 9)
      rw [← hW3, sW3] at t2
      rw [hW3] at t2
      have T4 := hide (show w1.heap.size ≤ ((w3.alloc (.cells #[.int .i64 x, .int .i64 n, .string t, .string y] 32)).alloc (.cells #[.string ⟨P1.toArray⟩] 9)).heap.size by simp; omega)
      have t5 : (k + 1) * 16 ≤ 140737488355328 := by omega
      have t6 : (k + 1) * 48 ≤ 140737488355328 := by omega
      have T3 := hide (show ∀ u ∈ cellsA ⟨x, n, t, y⟩, u.oneCell' = true from fun u hu => by simp [cellsA] at hu; rcases hu with rfl | rfl | rfl | rfl <;> rfl)
      go_wp2_with (first | (at_builtin; refine wpList_append_own_at _ rfl _ _ 25 rfl w1.heap.size 9 i1 _ 1 16 Tryz.underlying25 gi gz0 gz1 gz2 rfl (by decide) _ _ _ rfl (unhide t1) ⟨_, 0, none⟩ 1 1 [.string _] rfl rfl (unhide t2) (fun x hx => by simp at hx; subst hx; rfl) (by unfold maxLen; omega) t5 (unhide T4) ?_; intro v4 w4 hown4 hgrow4 _ hat4; obtain ⟨av4, cv4, ev4⟩ := own_sl hown4; subst ev4; have ne2 : ∀ g, (Value.slice a2 k c2).ownBlock = some g → w.heap.size + 1 < g := (fun g e => by have := ((unhide hownN).lt g e).1; omega); have R4 := hide (((unhide hR).keep (bAl (Below.refl _ _) (.cells #[.string ⟨P1.toArray⟩] 9))).grown hgrow4 ne2); have d6 := (unhide R4).b.at (o := 6) (v := .slice a2 k c2) rfl; have h6 := (unhide R4).b.froz 6; have R5 := hide ((unhide R4).set2 (.slice av4 (k + 1) cv4)); have e5 := (unhide R5).b.at (o := 5) (v := .slice a1 k c1) rfl; have g5 := (unhide R5).b.froz 5; have RA5 := hide ((((unhide RA).keep (bAl (Below.refl _ _) (.cells #[.string ⟨P1.toArray⟩] 9))).grown hgrow4 (fun e => by have := (unhide l2 _ e.symm).2; omega)).setOther (o' := 6) (.slice av4 (k + 1) cv4) (show w3.heap.size ≠ w.heap.size + 1 by omega)); have x0 := (unhide RA5).at (o := 0) (v := .int .i64 x) rfl; have x1 := (unhide RA5).at (o := 1) (v := .int .i64 n) rfl; have x2 := (unhide RA5).at (o := 2) (v := .string t) rfl; have x3 := (unhide RA5).at (o := 3) (v := .string y) rfl; have O5 := hide (own_set (b := w.heap.size + 1) (o := 6) (u := .slice av4 (k + 1) cv4) (((unhide hown).alloc (.cells #[.string ⟨P1.toArray⟩] 9)).kept hgrow4 (own_or (unhide hdj))) (fun g' e => by have := (unhide l1 g' e).1; omega)); have sz4 : w3.heap.size + 2 ≤ w4.heap.size := (by have := hgrow4.size; simp at this; omega); have O6 := hide ((unhide O5).alloc (.cells #[.int .i64 x, .int .i64 n, .string t, .string y] 32)); have t7 := hide (cell_four_new (w4.setCell ⟨w.heap.size + 1, 6, none⟩ (.slice av4 (k + 1) cv4)) (cellsA ⟨x, n, t, y⟩) 32); rw [show (World.setCell w4 ⟨w.heap.size + 1, 6, none⟩ (.slice av4 (k + 1) cv4)).heap.size = w4.heap.size by simp [World.setCell]] at t7; have T8 := hide (show w1.heap.size ≤ ((w4.setCell ⟨w.heap.size + 1, 6, none⟩ (.slice av4 (k + 1) cv4)).alloc (.cells #[.int .i64 x, .int .i64 n, .string t, .string y] 32)).heap.size by simp [World.setCell]; omega)) | (at_builtin; refine wpList_append_own_at _ rfl _ _ 33 rfl w1.heap.size 32 i0 _ 4 48 Tryz.underlying33 hi hz0 hz1 hz2 rfl (by decide) _ _ _ rfl (unhide O6) ⟨_, 0, none⟩ 1 1 (cellsA ⟨x, n, t, y⟩) rfl rfl (unhide t7) (unhide T3) (by unfold maxLen; omega) t6 (unhide T8) ?_; intro v6 w6 hown6 hgrow6 _ hat6; obtain ⟨av6, cv6, ev6⟩ := own_sl hown6; subst ev6; have ne1 : ∀ g, (Value.slice a1 k c1).ownBlock = some g → w.heap.size + 1 < g := (fun g e => by have := (unhide l1 g e).1; omega); have R7 := hide (((unhide R5).keep (bAl (Below.refl _ _) (.cells #[.int .i64 x, .int .i64 n, .string t, .string y] 32))).grown hgrow6 ne1); have y5 := (unhide R7).b.at (o := 5) (v := .slice a1 k c1) rfl; have z5 := (unhide R7).b.froz 5))
      have gl : g < w1.heap.size := ((unhide hbs).lt g rfl).2
      have l4 := hown4.lt
      have eh4 : ((w3.alloc (.cells #[.int .i64 x, .int .i64 n, .string t, .string y] 32)).alloc (.cells #[.string ⟨P1.toArray⟩] 9)).heap.size = w3.heap.size + 2 := by simp
      have eh6 : ((w4.setCell ⟨w.heap.size + 1, 6, none⟩ (.slice av4 (k + 1) cv4)).alloc (.cells #[.int .i64 x, .int .i64 n, .string t, .string y] 32)).heap.size = w4.heap.size + 1 := by simp [World.setCell]
      have dj4 : ∀ g', (Value.slice a1 k c1).ownBlock = some g' → (Value.slice av4 (k + 1) cv4).ownBlock ≠ some g' := by
        intro g' e1 e2
        rcases hat4 with h | h
        · rw [h] at e2; exact unhide hdj g' e1 e2
        · rw [h, eh4] at e2
          injection e2 with e2
          have := (unhide l1 g' e1).2
          omega
      have dj6 : ∀ g', (Value.slice av6 (k + 1) cv6).ownBlock = some g' → (Value.slice av4 (k + 1) cv4).ownBlock ≠ some g' := by
        intro g' e1 e2
        rcases hat6 with h | h
        · rw [h] at e1; exact dj4 g' e1 e2
        · rw [h, eh6] at e1
          injection e1 with e1
          have := (l4 g' e2).2
          omega
      have sz6 : w4.heap.size + 1 ≤ w6.heap.size := by have := hgrow6.size; omega
      refine ⟨⟨k + 1, I ++ [⟨x, n, t, y⟩], N ++ [P1], _, _, by omega, by simp, by simp [hI], by simp [hN], by simp [World.setCell]; omega, hide ((unhide R7).set1 _), hide ?_, hide ?_, hide dj6, hide ?_, hide ?_, rd4⟩, by simp [intOf]; omega⟩
      · rw [atomsV_snoc]
        exact own_set hown6 (fun g' e => by have := (hown6.lt g' e).1; omega)
      · have e : strsV (N ++ [P1]) = strsV N ++ [.string ⟨P1.toArray⟩] := by simp [strsV]
        rw [e]
        exact own_set (((own_set hown4 (fun g' e => by have := (l4 g' e).1; omega)).alloc _).kept hgrow6 (own_or (fun g' e1 e2 => dj4 g' e2 e1))) (fun g' e => by have := (l4 g' e).1; omega)
      · refine below_set ((bAl (below_set ((bAl (unhide B3) _).grown hgrow4 (by have := (unhide B3).size; simp; omega) (fun j hj => by have := ne2 j hj; omega)) (by omega)) _).grown hgrow6 (by rw [eh6]; omega) (fun j hj => by have := ne1 j hj; omega)) (by omega)
      · have ng : ∀ g', (Value.slice (some (⟨g, 0, none⟩ : Addr)) R.length cv).ownBlock = some g' → g' = g := fun g' e => by injection e with e; exact e.symm
        refine own_set (((own_set (((unhide hrow).alloc _).kept hgrow4 (.inr (fun e => ?_))) (fun g' e => ?_)).alloc _).kept hgrow6 (.inr (fun e => ?_))) (fun g' e => ?_)
        · have := (unhide l2 g e.symm).1
          omega
        · have := ((unhide hrow).lt g' e).1
          omega
        · have := (unhide l1 g e.symm).1
          omega
        · have := ((unhide hrow).lt g' e).1
          omega
    · have R3 := unhide hR
      obtain ⟨a5, c5, e5⟩ := own_sl (unhide hown)
      subst e5
      obtain ⟨a6, c6, e6⟩ := own_sl (unhide hownN)
      subst e6
      have j0 := R3.b.at (o := 0) (v := .int .i64 3) rfl
      have j1 := R3.b.at (o := 1) (v := .int .i64 0) rfl
      have j2 := R3.b.at (o := 2) (v := .int .i64 0) rfl
      have j3 := R3.b.at (o := 3) (v := .string ⟨#[]⟩) rfl
      have j4 := R3.b.at (o := 4) (v := .string ⟨#[]⟩) rfl
      have j5 := R3.b.at (o := 5) (v := .slice a5 k c5) rfl
      have j6 := R3.b.at (o := 6) (v := .slice a6 k c6) rfl
      have d0 := R3.r.at (o := 0) (v := .int .i64 0) rfl
      have d1 := R3.r.at (o := 1) (v := .int .i64 0) rfl
      have d2 := R3.r.at (o := 2) (v := .int .i64 0) rfl
      have d3 := R3.r.at (o := 3) (v := .string ⟨#[]⟩) rfl
      have d4 := R3.r.at (o := 4) (v := .string ⟨#[]⟩) rfl
      have d5 := R3.r.at (o := 5) (v := .slice none 0 0) rfl
      have d6 := R3.r.at (o := 6) (v := .slice none 0 0) rfl
      have f0 := R3.r.froz 0
      have f1 := R3.r.froz 1
      have f2 := R3.r.froz 2
      have f3 := R3.r.froz 3
      have f4 := R3.r.froz 4
      have f5 := R3.r.froz 5
      have f6 := R3.r.froz 6
      clear R3
      have ek : k = R.length := by omega
      have fin := hide (show ∃ R', ItemsAre s.data.toList R' ∧ RdRec R' N I ∧ I.length = R'.length from ⟨R, unhide hit, unhide hrd, by omega⟩)
      clear hrd ek
      go_wp2_with fail
      refine bodyPost_ret (v := .agg #[.int .i64 3, .int .i64 0, .int .i64 0, .string ⟨#[]⟩, .string ⟨#[]⟩, .slice a5 k c5, .slice a6 k c6]) (by simp [results, Tryz.results111, go_sem, d0, d1, d2, d3, d4, d5, d6]) rfl ⟨⟨_, _, I, N, rfl, ?_, ?_, unhide hdj, fin⟩, below_set7 (unhide hb) (Nat.le_refl _)⟩
      · rw [hI]
        exact own_set7 (unhide hown) (by omega) (by omega)
      · rw [hN]
        exact own_set7 (unhide hownN) (by omega) (by omega)
end Go.Proofs.YticidjceljjfnaaGreatDoor.V
