/- BFit, BGv, one behind the other. -/
import Derived.Test.YticidjceljjfnaaGreatDoorJ33
import Derived.Test.YticidjceljjfnaaGreatDoorJ23
import Derived.Test.YticidjceljjfnaaGreatDoorJ34
/- A guess of a value fits: pure; rows that are owned, as lists. -/
namespace Go.Proofs.YticidjceljjfnaaGreatDoor.V
open Go.RowKit
set_option maxRecDepth 20000

abbrev zA : AtomT := ⟨0, 0, ⟨#[]⟩, ⟨#[]⟩⟩
def mkB (l : List UInt8) : ByteArray := ⟨l.toArray⟩
structure GuessV (l : List UInt8) (v : ValT) : Prop where
  ok : v.Ok
  fit : ∀ v' : ValT, v'.Ok → GoodVal v' → valL v' = l → v = v'
theorem zA_ok : AtomT.Ok zA := ⟨by decide, by decide, by unfold maxLen; decide, by unfold maxLen; decide⟩
theorem nc_brk {c : UInt8} (h : NC c) : ¬ c = 91 ∧ ¬ c = 123 := by
  rcases h with rfl | h
  · exact ⟨by decide, by decide⟩
  · unfold Dig at h
    exact ⟨fun e => by rw [e] at h; exact absurd h (by decide), fun e => by rw [e] at h; exact absurd h (by decide)⟩
theorem atom_head {k n : Int} {t y : ByteArray} {c : UInt8} {r : List UInt8} (hg : goodAtom k n t y = true) (h0 : -9223372036854775808 ≤ n) (h1 : n ≤ 9223372036854775807) (e : atomL k n t y = c :: r) : ¬ c = 91 ∧ ¬ c = 123 := by
  cases hed hg h0 h1 e with
  | tru _ _ _ _ l => injection l with l; subst l; exact ⟨by decide, by decide⟩
  | fal _ _ _ _ l => injection l with l; subst l; exact ⟨by decide, by decide⟩
  | txt _ _ _ l => subst l; exact ⟨by decide, by decide⟩
  | tim _ _ _ l => subst l; exact ⟨by decide, by decide⟩
  | ref _ _ l => exact ⟨fun e => by rw [e] at l; exact absurd l (by decide), fun e => by rw [e] at l; exact absurd l (by decide)⟩
  | adr _ _ _ l => exact nc_brk l
  | dec _ _ _ _ _ l => exact nc_brk l
  | num _ _ _ l => exact nc_brk l
theorem mid_of (c d : UInt8) (m : List UInt8) : midL (c :: (m ++ [d])) = m := by
  unfold midL
  simp
theorem valL_1 {v : ValT} (h : v.k = 1) : valL v = v.a.l := by unfold valL; rw [if_pos h]
theorem valL_2 {v : ValT} (h : v.k = 2) : valL v = 91 :: (Lib.join (v.items.map AtomT.l) [44] ++ [93]) := by
  unfold valL pieces; rw [if_neg (by omega), if_neg (by omega), if_neg (by omega)]
theorem valL_3 {v : ValT} (h : v.k = 3) : valL v = 123 :: (Lib.join (List.zipWith (fun n a => n.data.toList ++ 58 :: AtomT.l a) v.names v.items) [44] ++ [125]) := by
  unfold valL pieces; rw [if_neg (by omega), if_pos h, if_pos h]
theorem good_first {v : ValT} (hv : v.Ok) (hg : v.k = 1) (h : v.a.good = true) : ∃ c r, valL v = c :: r ∧ ¬ c = 91 ∧ ¬ c = 123 := by
  rw [valL_1 hg]
  obtain ⟨c, r, e⟩ := atomL_cons (k := v.a.x) (n := v.a.n) (t := v.a.t) (y := v.a.y) h hv.a.n8 hv.a.n9
  exact ⟨c, r, e, atom_head h hv.a.n8 hv.a.n9 e⟩
theorem fits_set {A : List AtomT} (hA : ∀ a ∈ A, a.good = true ∧ a.Ok) (h50 : A.length ≤ 50) (hne : A ≠ []) : Fits (Lib.join (A.map AtomT.l) [44]) (A.map AtomT.l) := by
  refine ⟨⟨?_, by simpa using h50⟩, ?_, rfl⟩
  · cases A with
    | nil => exact absurd rfl hne
    | cons a A => simp
  · intro p hp
    obtain ⟨a, ha, rfl⟩ := List.mem_map.1 hp
    obtain ⟨g, o⟩ := hA a ha
    refine ⟨pass_atom g o.n8 o.n9, fun e => ?_⟩
    obtain ⟨c, r, e2⟩ := atomL_cons (k := a.x) (n := a.n) (t := a.t) (y := a.y) g o.n8 o.n9
    have e3 : a.l = c :: r := e2
    rw [e3] at e
    cases e
theorem set_fits {l : List UInt8} {R : List (List UInt8)} {I : List AtomT} (hi : ItemsAre l R) (hr : RdOf R I) (hl : I.length = R.length) (hc : ∃ r, l = 91 :: r) : GuessV l ⟨2, zA, I, []⟩ := by
  refine ⟨⟨zA_ok, fun q hq => ?_, fun q hq => by cases hq⟩, fun v' hv hg e => ?_⟩
  · obtain ⟨j, hj, rfl⟩ := List.getElem_of_mem hq
    obtain ⟨ok, ha⟩ := hr.each j hj (by have : j < I.length := hj; omega)
    exact atm_ok ha
  · obtain ⟨r, hc⟩ := hc
    rcases hg with ⟨h1, h2, _, _⟩ | ⟨h1, h2, h3, h4, _, h6⟩ | ⟨h1, _⟩
    · exfalso
      obtain ⟨c, r', e2, n1, _⟩ := good_first hv h1 h2
      rw [e2, hc] at e
      injection e with e
      exact n1 e
    · have hA : ∀ a ∈ v'.items, a.good = true ∧ a.Ok := fun a ha => by
        obtain ⟨j, hj, rfl⟩ := List.getElem_of_mem ha
        exact ⟨h4 j hj hj, hv.items _ (List.getElem_mem _)⟩
      have em : midL l = Lib.join (v'.items.map AtomT.l) [44] := by rw [← e, valL_2 h1, mid_of]
      have eI : I = v'.items := by
        by_cases hn : v'.items = []
        · have : R = [] := hi.nil (by rw [em, hn]; rfl)
          rw [hn]
          exact List.length_eq_zero_iff.1 (by rw [hl, this]; rfl)
        · exact hr.is hl (hi.all _ (by rw [em]; exact fits_set hA h3 hn)) hA
      obtain ⟨k, a, items, names⟩ := v'
      simp only at h1 h2 h6 eI
      rw [eI, h1, h6, zeroA_eq h2]
    · exfalso
      rw [valL_3 h1, hc] at e
      injection e with e
      exact absurd e (by decide)
theorem rec_fits {l : List UInt8} {R N : List (List UInt8)} {I : List AtomT} (hs : l.length ≤ 1048576) (hi : ItemsAre l R) (hr : RdRec R N I) (hl : I.length = R.length) (hc : ∃ r, l = 123 :: r) : GuessV l ⟨3, zA, I, N.map mkB⟩ := by
  have hln := hr.ln
  refine ⟨⟨zA_ok, fun q hq => ?_, fun q hq => ?_⟩, fun v' hv hg e => ?_⟩
  · obtain ⟨j, hj, rfl⟩ := List.getElem_of_mem hq
    have hj' : j < I.length := hj
    obtain ⟨_, ok, ha⟩ := hr.each j hj (by omega) (by omega)
    exact atm_ok ha
  · obtain ⟨p, hp, rfl⟩ := List.mem_map.1 hq
    obtain ⟨j, hj, rfl⟩ := List.getElem_of_mem hp
    obtain ⟨e1, _⟩ := hr.each j (by omega) (by omega) hj
    have := hi.each R[j] (List.getElem_mem _)
    have h2 := (cut_len 58 R[j]).1
    unfold mkB
    rw [sz_arr, e1]
    unfold maxLen
    omega
  · obtain ⟨r, hc⟩ := hc
    rcases hg with ⟨h1, h2, _, _⟩ | ⟨h1, _⟩ | ⟨h1, h2, h3, h4, h5, h6, _⟩
    · exfalso
      obtain ⟨c, r', e2, _, n1⟩ := good_first hv h1 h2
      rw [e2, hc] at e
      injection e with e
      exact n1 e
    · exfalso
      rw [valL_2 h1, hc] at e
      injection e with e
      exact absurd e (by decide)
    · obtain ⟨Z, hZ⟩ : ∃ Z, List.zipWith (fun n a => n.data.toList ++ 58 :: AtomT.l a) v'.names v'.items = Z := ⟨_, rfl⟩
      have em : midL l = Lib.join Z [44] := by rw [← e, valL_3 h1, mid_of, hZ]
      have lZ : Z.length = v'.items.length := by rw [← hZ, List.length_zipWith]; omega
      have gZ : ∀ j (hj : j < Z.length), Z[j] = (v'.names[j]'(by omega)).data.toList ++ 58 :: (v'.items[j]'(by omega)).l := fun j hj => by simp [← hZ]
      have gA : ∀ j (hj : j < v'.items.length), (v'.items[j]).good = true ∧ (v'.items[j]).Ok := fun j hj => ⟨h4 j hj hj, hv.items _ (List.getElem_mem _)⟩
      have gN : ∀ j (hj : j < v'.names.length), goodName v'.names[j] = true := fun j hj => h6 j hj hj
      have eR : R = Z := by
        by_cases hn : v'.items = []
        · have z0 : Z = [] := List.length_eq_zero_iff.1 (by rw [lZ, hn]; rfl)
          rw [z0]
          exact hi.nil (by rw [em, z0]; rfl)
        · refine hi.all Z (by
            rw [em]
            refine ⟨⟨?_, by omega⟩, fun p hp => ?_, rfl⟩
            · have : 0 < v'.items.length := List.length_pos_iff.2 hn
              omega
            · obtain ⟨j, hj, rfl⟩ := List.getElem_of_mem hp
              rw [gZ j hj]
              obtain ⟨g, o⟩ := gA j (by omega)
              have e2 : (v'.names[j]'(by omega)).data.toList ++ 58 :: (v'.items[j]'(by omega)).l = ((v'.names[j]'(by omega)).data.toList ++ [58]) ++ (v'.items[j]'(by omega)).l := by simp
              refine ⟨?_, by simp⟩
              rw [e2]
              exact ((pass_name (gN j (by omega))).app (pass_one (by decide) (by decide))).app (pass_atom g o.n8 o.n9))
      have cR : ∀ j (hj : j < Z.length), cutC 58 Z[j] = ((v'.names[j]'(by omega)).data.toList, (v'.items[j]'(by omega)).l) := fun j hj => by
        rw [gZ j hj]
        exact cutC_app 58 _ _ (fun h => (okc_plain ((name_parts (gN j (by omega))).2 _ h)).2.2 rfl)
      subst eR
      have eI : I = v'.items := by
        apply List.ext_getElem (by omega)
        intro j a1 a2
        obtain ⟨_, ok, ha⟩ := hr.each j a1 (by omega) (by omega)
        rw [cR j (by omega)] at ha
        obtain ⟨g, o⟩ := gA j a2
        obtain ⟨_, a, b, c, d⟩ := ha.all _ _ _ _ g o.n8 o.n9 rfl
        cases hI : I[j] with
        | mk x n t y =>
          rw [hI] at a b c d
          simp only at a b c d
          rw [a, b, c, d]
      have eN : N.map mkB = v'.names := by
        apply List.ext_getElem (by rw [List.length_map]; omega)
        intro j a1 a2
        rw [List.length_map] at a1
        obtain ⟨e1, _⟩ := hr.each j (by omega) (by omega) a1
        rw [cR j (by omega)] at e1
        rw [List.getElem_map, e1]
        unfold mkB
        exact mk_list _
      obtain ⟨k, a, items, names⟩ := v'
      simp only at h1 h2 eI eN
      rw [eI, eN, h1, zeroA_eq h2]
theorem atom_fits {l : List UInt8} {x n : Int} {t y : ByteArray} {ok : Bool} (h : AtmIs l x n t y ok) (hc : ∀ r, ¬ l = 91 :: r ∧ ¬ l = 123 :: r) : GuessV l ⟨1, ⟨x, n, t, y⟩, [], []⟩ := by
  refine ⟨⟨atm_ok h, (fun q hq => by cases hq), (fun q hq => by cases hq)⟩, fun v' hv hg e => ?_⟩
  rcases hg with ⟨h1, h2, h3, h4⟩ | ⟨h1, _⟩ | ⟨h1, _⟩
  · rw [valL_1 h1] at e
    obtain ⟨_, a, b, c, d⟩ := h.all _ _ _ _ h2 hv.a.n8 hv.a.n9 e
    obtain ⟨k, ⟨x', n', t', y'⟩, items, names⟩ := v'
    simp only at h1 h3 h4 a b c d
    rw [h1, h3, h4, a, b, c, d]
  · rw [valL_2 h1] at e
    exact absurd e.symm (hc _).1
  · rw [valL_3 h1] at e
    exact absurd e.symm (hc _).2

theorem atomsV_get : ∀ (l : List AtomT) (i j : Nat) (h : i < l.length), j < 4 → (atomsV l)[i * 4 + j]? = (cellsA l[i])[j]?
  | a :: l, 0, j, _, hj => by
    show (cellsA a ++ atomsV l)[0 * 4 + j]? = _
    rw [List.getElem?_append_left (by show 0 * 4 + j < 4; omega), Nat.zero_mul, Nat.zero_add]
    rfl
  | a :: l, i + 1, j, h, hj => by
    show (cellsA a ++ atomsV l)[(i + 1) * 4 + j]? = _
    rw [List.getElem?_append_right (by show 4 ≤ _; omega), show (i + 1) * 4 + j - (cellsA a).length = i * 4 + j by show _ - 4 = _; omega]
    exact atomsV_get l i j (by simpa using h) hj
theorem atomsV_len (l : List AtomT) : (atomsV l).length = l.length * 4 := by
  induction l with
  | nil => rfl
  | cons a l ih =>
    show (cellsA a ++ atomsV l).length = _
    rw [List.length_append, ih]
    show 4 + _ = (l.length + 1) * 4
    omega
theorem sla_own {w : World} {base cap len : Nat} {a : Option Addr} {l : List AtomT} (h : w.ownsRow base 32 4 (.slice a len cap) len (atomsV l)) : SlA w a len l := by
  have hl : len = l.length := by have := h.1; rw [atomsV_len] at this; omega
  refine ⟨hl, ?_⟩
  rcases h.2 with ⟨e, hn⟩ | ⟨g, c, cur, hv, hg, hc, _, _, _, htk⟩
  · exact .inl (List.length_eq_zero_iff.1 (by omega))
  · injection hv with hv
    refine .inr ⟨g, 0, hv, ⟨(Array.getElem?_eq_some_iff.1 hc).1, fun i hi => ?_⟩⟩
    have cell : ∀ j, j < 4 → w.cell? ⟨g, 0 + i * 4 + j, none⟩ = (cellsA l[i])[j]? := fun j hj => by
      have h2 := congrArg (fun l => l[i * 4 + j]?) htk
      simp only [List.getElem?_take] at h2
      rw [if_pos (by omega), Array.getElem?_toList, atomsV_get l i j hi hj] at h2
      simp only [World.cell?, hc, Nat.zero_add]
      exact h2
    exact ⟨cell 0 (by omega), cell 1 (by omega), cell 2 (by omega), cell 3 (by omega)⟩
theorem sls_own {w : World} {base cap len : Nat} {a : Option Addr} {l : List ByteArray} (h : w.ownsRow base 9 1 (.slice a len cap) len (l.map Value.string)) : SlS w a len l := by
  have hl : len = l.length := by have := h.1; rw [List.length_map] at this; omega
  refine ⟨hl, ?_⟩
  rcases h.2 with ⟨e, hn⟩ | ⟨g, c, cur, hv, hg, hc, _, _, _, htk⟩
  · exact .inl (List.length_eq_zero_iff.1 (by omega))
  · injection hv with hv
    refine .inr ⟨g, 0, hv, ⟨(Array.getElem?_eq_some_iff.1 hc).1, fun i hi => ?_⟩⟩
    have h2 := congrArg (fun l => l[i]?) htk
    simp only [List.getElem?_take] at h2
    rw [if_pos (by omega), Array.getElem?_toList, List.getElem?_map, List.getElem?_eq_getElem hi] at h2
    simp only [World.cell?, hc, Nat.zero_add]
    exact h2
theorem strs_mk (N : List (List UInt8)) : strsV N = (N.map mkB).map Value.string := by simp [strsV, mkB]
end Go.Proofs.YticidjceljjfnaaGreatDoor.V
/- impl.guessValue, impl.ReadValue. -/
namespace Go.Proofs.YticidjceljjfnaaGreatDoor.V
open Go.RowKit
set_option maxRecDepth 20000

def VRet (v : ValT) (v1 v2 : Value) : Value := .agg #[.int .i64 v.k, .int .i64 v.a.x, .int .i64 v.a.n, .string v.a.t, .string v.a.y, v1, v2]
/-- A value's two rows, of its own. -/
structure VOwn (w : World) (base : Nat) (v : ValT) (v1 v2 : Value) : Prop where
  i : w.ownsRow base 32 4 v1 v.items.length (atomsV v.items)
  n : w.ownsRow base 9 1 v2 v.names.length (v.names.map Value.string)
  dj : ∀ g, v1.ownBlock = some g → v2.ownBlock ≠ some g
theorem VOwn.keep {w w' : World} {base : Nat} {v : ValT} {v1 v2 : Value} (h : VOwn w base v v1 v2) (hb : Below w.heap.size w w') : VOwn w' base v v1 v2 := ⟨own_keepT h.i hb, own_keepT h.n hb, h.dj⟩
theorem VOwn.nil (w : World) (base : Nat) (k : Int) (a : AtomT) : VOwn w base ⟨k, a, [], []⟩ (.slice none 0 0) (.slice none 0 0) := ⟨World.ownsRow_nil _ _ _ _, World.ownsRow_nil _ _ _ _, fun g h => by cases h⟩
theorem row_set7 {w : World} {b : Nat} {v1 v2 : Value} {k : Int} (h : RowIs w b (zV k v1 v2) 35) (u0 u1 u2 u3 u4 u5 u6 : Value) :
    RowIs (((((((w.setCell ⟨b, 0, none⟩ u0).setCell ⟨b, 1, none⟩ u1).setCell ⟨b, 2, none⟩ u2).setCell ⟨b, 3, none⟩ u3).setCell ⟨b, 4, none⟩ u4).setCell ⟨b, 5, none⟩ u5).setCell ⟨b, 6, none⟩ u6) b #[u0, u1, u2, u3, u4, u5, u6] 35 := by
  have h7 := ((((((h.set 0 u0).set 1 u1).set 2 u2).set 3 u3).set 4 u4).set 5 u5).set 6 u6
  have e : ((((((((zV k v1 v2).setIfInBounds 0 u0).setIfInBounds 1 u1).setIfInBounds 2 u2).setIfInBounds 3 u3).setIfInBounds 4 u4).setIfInBounds 5 u5).setIfInBounds 6 u6) = #[u0, u1, u2, u3, u4, u5, u6] := by
    apply Array.toList_inj.1
    simp [zV]
  rw [e] at h7
  exact h7
theorem pre_one (l : List UInt8) (c : UInt8) : Lib.hasPrefix l [c] = true ↔ ∃ r, l = c :: r := by
  unfold Lib.hasPrefix
  cases l with
  | nil => simp
  | cons d r => simp; exact eq_comm

set_option maxHeartbeats 2000000 in
theorem guessValue_any (s : ByteArray) (w : World) (hs : s.size ≤ 1048576) (hE : Env w) :
    Calls Tryz.prog 82 #[.string s] w fun e w' => (∃ v v1 v2, e = .returned (VRet v v1 v2) ∧ VOwn w' w.heap.size v v1 v2 ∧ Hid (GuessV s.data.toList v)) ∧ Below w.heap.size w w' := by
  have zl : s.data.toList.length = s.size := by simp
  have b0 := bAl (Below.refl w.heap.size w) (.cells (zV 0 (.slice none 0 0) (.slice none 0 0)) 35)
  have B0 := hide b0
  have R := hide (RowIs.new w (zV 0 (.slice none 0 0) (.slice none 0 0)) 35)
  have HE := hide (hE.keep b0)
  have sz0 : (w.alloc (.cells (zV 0 (.slice none 0 0) (.slice none 0 0)) 35)).heap.size = w.heap.size + 1 := by simp
  have q1 := hide (fun w => Tryz.strings_HasPrefix s ⟨#[91]⟩ w)
  have q2 := hide (fun w => Tryz.strings_HasPrefix s ⟨#[123]⟩ w)
  have p1 := hide (pre_one s.data.toList 91)
  have p2 := hide (pre_one s.data.toList 123)
  have e1 : (⟨#[91]⟩ : ByteArray).data.toList = [91] := rfl
  have e2 : (⟨#[123]⟩ : ByteArray).data.toList = [123] := rfl
  rw [e1] at q1
  rw [e2] at q2
  clear e1 e2 hE b0
  generalize Lib.hasPrefix s.data.toList [91] = P1 at q1 p1
  generalize Lib.hasPrefix s.data.toList [123] = P2 at q2 p2
  go_enter Tryz.func82, Tryz.ntmps82
  go_wp2_with fail
  refine (unhide q1 _).mono ?_
  rintro e w1 ⟨rfl, rfl⟩
  cases P1 with
  | true =>
    have ex := (unhide p1).1 rfl
    have HX := hide ex
    have zs : 1 ≤ s.size := by obtain ⟨r, hr⟩ := ex; rw [hr] at zl; simp at zl; omega
    have q3 := hide (fun w h => guessSet_any s w hs zs h)
    clear ex q1 q2 p1 p2
    go_wp2_with fail
    refine (unhide q3 _ (unhide HE)).mono ?_
    rintro e w2 ⟨⟨v1, I, rfl, hown, hfin⟩, hb2⟩
    have gu := hide (show GuessV s.data.toList ⟨2, zA, I, []⟩ by obtain ⟨R, h1, h2, h3⟩ := unhide hfin; exact set_fits h1 h2 h3 (unhide HX))
    have R2 := (unhide R).keep hb2
    have B2 := hide (bTr (unhide B0) hb2)
    rw [sz0] at hown
    have O2 := hide hown
    obtain ⟨a5, c5, e5⟩ := own_sl hown
    subst e5
    have d0 := (R2).at (o := 0) (v := .int .i64 0) rfl
    have d1 := (R2).at (o := 1) (v := .int .i64 0) rfl
    have d2 := (R2).at (o := 2) (v := .int .i64 0) rfl
    have d3 := (R2).at (o := 3) (v := .string ⟨#[]⟩) rfl
    have d4 := (R2).at (o := 4) (v := .string ⟨#[]⟩) rfl
    have d5 := (R2).at (o := 5) (v := .slice none 0 0) rfl
    have d6 := (R2).at (o := 6) (v := .slice none 0 0) rfl
    have f0 := (R2).froz 0
    have f1 := (R2).froz 1
    have f2 := (R2).froz 2
    have f3 := (R2).froz 3
    have f4 := (R2).froz 4
    have f5 := (R2).froz 5
    have f6 := (R2).froz 6
    clear R2 hb2 hown hfin q3
    go_wp2_with fail
    refine bodyPost_ret (v := VRet ⟨2, zA, I, []⟩ (.slice a5 I.length c5) (.slice none 0 0)) (by simp [results, Tryz.results82, go_sem, VRet, d0, d1, d2, d3, d4, d5, d6]) rfl ⟨⟨_, _, _, rfl, ⟨own_set7 (unhide O2) (by omega) (by omega), World.ownsRow_nil _ _ _ _, fun g _ h => by cases h⟩, gu⟩, below_set7 (unhide B2) (Nat.le_refl _)⟩
  | false =>
    clear q1
    go_wp2_with fail
    refine (unhide q2 _).mono ?_
    rintro e w1 ⟨rfl, rfl⟩
    cases P2 with
    | true =>
      have ex := (unhide p2).1 rfl
      have HX := hide ex
      have zs : 1 ≤ s.size := by obtain ⟨r, hr⟩ := ex; rw [hr] at zl; simp at zl; omega
      have q3 := hide (fun w h => guessRecord_any s w hs zs h)
      clear ex q2 p1 p2
      go_wp2_with fail
      refine (unhide q3 _ (unhide HE)).mono ?_
      rintro e w2 ⟨⟨v1, v2, I, N, rfl, hown, hownN, hdj, hfin⟩, hb2⟩
      have gu := hide (show GuessV s.data.toList ⟨3, zA, I, N.map mkB⟩ by obtain ⟨R, h1, h2, h3⟩ := unhide hfin; exact rec_fits (by omega) h1 h2 h3 (unhide HX))
      have R2 := (unhide R).keep hb2
      have B2 := hide (bTr (unhide B0) hb2)
      rw [sz0] at hown hownN
      have O2 := hide hown
      have N2 := hide hownN
      obtain ⟨a5, c5, e5⟩ := own_sl hown
      subst e5
      obtain ⟨a6, c6, e6⟩ := own_sl hownN
      subst e6
      have DJ := hide hdj
      have d0 := (R2).at (o := 0) (v := .int .i64 0) rfl
      have d1 := (R2).at (o := 1) (v := .int .i64 0) rfl
      have d2 := (R2).at (o := 2) (v := .int .i64 0) rfl
      have d3 := (R2).at (o := 3) (v := .string ⟨#[]⟩) rfl
      have d4 := (R2).at (o := 4) (v := .string ⟨#[]⟩) rfl
      have d5 := (R2).at (o := 5) (v := .slice none 0 0) rfl
      have d6 := (R2).at (o := 6) (v := .slice none 0 0) rfl
      have f0 := (R2).froz 0
      have f1 := (R2).froz 1
      have f2 := (R2).froz 2
      have f3 := (R2).froz 3
      have f4 := (R2).froz 4
      have f5 := (R2).froz 5
      have f6 := (R2).froz 6
      clear R2 hb2 hown hownN hfin q3 hdj
      go_wp2_with fail
      refine bodyPost_ret (v := VRet ⟨3, zA, I, N.map mkB⟩ (.slice a5 I.length c5) (.slice a6 N.length c6)) (by simp [results, Tryz.results82, go_sem, VRet, d0, d1, d2, d3, d4, d5, d6]) rfl ⟨⟨_, _, _, rfl, ⟨own_set7 (unhide O2) (by omega) (by omega), ?_, unhide DJ⟩, gu⟩, below_set7 (unhide B2) (Nat.le_refl _)⟩
      have := own_set7 (base' := w.heap.size) (b := w.heap.size) (u0 := .int .i64 3) (u1 := .int .i64 0) (u2 := .int .i64 0) (u3 := .string ⟨#[]⟩) (u4 := .string ⟨#[]⟩) (u5 := .slice a5 I.length c5) (u6 := .slice a6 N.length c6) (unhide N2) (by omega) (by omega)
      rw [strs_mk] at this
      simpa using this
    | false =>
      have hc := hide (show ∀ r, ¬ s.data.toList = 91 :: r ∧ ¬ s.data.toList = 123 :: r from fun r => ⟨(fun h => by have := (unhide p1).2 ⟨r, h⟩; cases this), (fun h => by have := (unhide p2).2 ⟨r, h⟩; cases this)⟩)
      have q3 := hide (fun w h => iReadAtom_any s w hs h)
      clear q2 p1 p2
      go_wp2_with fail
      refine (unhide q3 _ (unhide HE)).mono ?_
      rintro e w2 ⟨⟨x, n, t, y, ok, rfl, ha⟩, hb2⟩
      have gu := hide (atom_fits ha (unhide hc))
      have ba := bAl (Below.refl w2.heap.size w2) (.cells #[.int .i64 x, .int .i64 n, .string t, .string y] 32)
      have B2 := hide (bTr (unhide B0) hb2)
      have lt2 : w.heap.size < w2.heap.size := ((unhide R).keep hb2).lt
      have R2 := ((unhide R).keep hb2).keep ba
      have nab : ¬ w2.heap.size = w.heap.size := by omega
      have R1 := (unhide R).keep hb2
      have R1h := hide R1
      have d0 := (R1).at (o := 0) (v := .int .i64 0) rfl
      have d1 := (R1).at (o := 1) (v := .int .i64 0) rfl
      have d2 := (R1).at (o := 2) (v := .int .i64 0) rfl
      have d3 := (R1).at (o := 3) (v := .string ⟨#[]⟩) rfl
      have d4 := (R1).at (o := 4) (v := .string ⟨#[]⟩) rfl
      have d5 := (R1).at (o := 5) (v := .slice none 0 0) rfl
      have d6 := (R1).at (o := 6) (v := .slice none 0 0) rfl
      have f0 := (R1).froz 0
      have f1 := (R1).froz 1
      have f2 := (R1).froz 2
      have f3 := (R1).froz 3
      have f4 := (R1).froz 4
      have f5 := (R1).froz 5
      have f6 := (R1).froz 6
      have m0 := (R2).at (o := 0) (v := .int .i64 0) rfl
      have m1 := (R2).at (o := 1) (v := .int .i64 0) rfl
      have m2 := (R2).at (o := 2) (v := .int .i64 0) rfl
      have m3 := (R2).at (o := 3) (v := .string ⟨#[]⟩) rfl
      have m4 := (R2).at (o := 4) (v := .string ⟨#[]⟩) rfl
      have m5 := (R2).at (o := 5) (v := .slice none 0 0) rfl
      have m6 := (R2).at (o := 6) (v := .slice none 0 0) rfl
      have l0 := (R2).froz 0
      have l1 := (R2).froz 1
      have l2 := (R2).froz 2
      have l3 := (R2).froz 3
      have l4 := (R2).froz 4
      have l5 := (R2).froz 5
      have l6 := (R2).froz 6
      clear R2 R1 hb2 q3 ba ha
      go_wp2_with fail
      have RF := (row_set7 (unhide R1h) (.int .i64 1) (.int .i64 x) (.int .i64 n) (.string t) (.string y) (.slice none 0 0) (.slice none 0 0)).keep (bAl (Below.refl _ _) (.cells #[.int .i64 x, .int .i64 n, .string t, .string y] 32))
      have u0 := RF.at (o := 0) (v := .int .i64 1) rfl
      have u1 := RF.at (o := 1) (v := .int .i64 x) rfl
      have u2 := RF.at (o := 2) (v := .int .i64 n) rfl
      have u3 := RF.at (o := 3) (v := .string t) rfl
      have u4 := RF.at (o := 4) (v := .string y) rfl
      have u5 := RF.at (o := 5) (v := .slice none 0 0) rfl
      have u6 := RF.at (o := 6) (v := .slice none 0 0) rfl
      refine bodyPost_ret (v := VRet ⟨1, ⟨x, n, t, y⟩, [], []⟩ (.slice none 0 0) (.slice none 0 0)) (by simp [results, Tryz.results82, go_sem, VRet, u0, u1, u2, u3, u4, u5, u6]) rfl ⟨⟨_, _, _, rfl, VOwn.nil _ _ _ _, gu⟩, bAl (below_set7 (unhide B2) (Nat.le_refl _)) _⟩
end Go.Proofs.YticidjceljjfnaaGreatDoor.V
