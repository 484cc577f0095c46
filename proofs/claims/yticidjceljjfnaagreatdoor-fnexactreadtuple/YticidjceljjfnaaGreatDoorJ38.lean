/- TGu, THas, one behind the other. -/
import Derived.Test.YticidjceljjfnaaGreatDoorJ37
import Derived.Test.YticidjceljjfnaaGreatDoorJ21
/- impl.guessTuple. -/
namespace Go.Proofs.YticidjceljjfnaaGreatDoor.V
open Go.RowKit
set_option maxRecDepth 20000
set_option linter.unusedVariables false
abbrev zT : Array Value := #[.string ⟨#[]⟩, .string ⟨#[]⟩, .string ⟨#[]⟩, .string ⟨#[]⟩, .string ⟨#[]⟩, .string ⟨#[]⟩, .string ⟨#[]⟩, .int .i64 0, .int .i64 0, .int .i64 0, .string ⟨#[]⟩, .string ⟨#[]⟩, .slice none 0 0, .slice none 0 0]
def TRet (t : TupT) (v1 v2 : Value) : Value := .agg #[.string t.ty, .string t.id, .string t.rel, .string t.sty, .string t.sid, .string t.srel, .string t.cav, .int .i64 t.g.k, .int .i64 t.g.a.x, .int .i64 t.g.a.n, .string t.g.a.t, .string t.g.a.y, v1, v2]
structure CutIs (c : UInt8) (s A B : ByteArray) : Prop where
  e : (A.data.toList, B.data.toList) = cutC c s.data.toList
  a : A.size ≤ s.size
  b : B.size ≤ s.size
theorem cutIs (c : UInt8) (s : ByteArray) : CutIs c s ⟨(cutC c s.data.toList).1.toArray⟩ ⟨(cutC c s.data.toList).2.toArray⟩ := by
  refine ⟨rfl, ?_, ?_⟩
  · show (cutC c s.data.toList).1.toArray.size ≤ _
    unfold cutC
    split
    · simp; omega
    · simp
  · show (cutC c s.data.toList).2.toArray.size ≤ _
    unfold cutC
    split
    · simp
    · simp
theorem strCut2 (c : UInt8) (s : ByteArray) (w : World) (hs : s.size ≤ 1048576) :
    Calls Tryz.prog 51 #[.string s, .string ⟨#[c]⟩] w fun e w' => (∃ A B b, e = .returned (.tuple #[.string A, .string B, .bool b]) ∧ Hid (CutIs c s A B)) ∧ Below w.heap.size w w' :=
  (strCutC c s w hs).mono fun e w' ⟨⟨b, he⟩, hb⟩ => ⟨⟨_, _, b, he, hide (cutIs c s)⟩, hb⟩
theorem trim_size (s : ByteArray) : (⟨(Lib.trimSuffix s.data.toList [93]).toArray⟩ : ByteArray).size ≤ s.size := by
  show (Lib.trimSuffix s.data.toList [93]).toArray.size ≤ _
  unfold Lib.trimSuffix
  split
  · simp
  · simp
theorem trim2 (s : ByteArray) (w : World) (hs : s.size ≤ 1048576) :
    Calls Tryz.prog 52 #[.string s, .string ⟨#[93]⟩] w fun e w' => (∃ A, e = .returned (.string A) ∧ Hid (A.data.toList = Lib.trimSuffix s.data.toList [93] ∧ A.size ≤ s.size)) ∧ w' = w :=
  (Tryz.strings_TrimSuffix s ⟨#[93]⟩ w (by omega)).mono fun e w' ⟨he, hb⟩ => ⟨⟨_, he, hide ⟨rfl, trim_size s⟩⟩, hb⟩
theorem vown_one {w : World} {base b o : Nat} {v : ValT} {v1 v2 u : Value} (h : VOwn w base v v1 v2) (hb : b < base) : VOwn (w.setCell ⟨b, o, none⟩ u) base v v1 v2 :=
  ⟨own_set h.i (fun g e he => by have := (h.i.lt g e).1; omega), own_set h.n (fun g e he => by have := (h.n.lt g e).1; omega), h.dj⟩
theorem VOwn.base {w : World} {base base' : Nat} {v : ValT} {v1 v2 : Value} (h : VOwn w base v v1 v2) (hb : base' ≤ base) : VOwn w base' v v1 v2 :=
  ⟨own_base h.i hb, own_base h.n hb, h.dj⟩
theorem vown_set7 {w0 w : World} {b : Nat} {v : ValT} {v1 v2 u0 u1 u2 u3 u4 u5 u6 : Value} (h : VOwn w w0.heap.size v v1 v2) (hc : b + 1 ≤ w0.heap.size) :
    VOwn (((((((w.setCell ⟨b, 7, none⟩ u0).setCell ⟨b, 8, none⟩ u1).setCell ⟨b, 9, none⟩ u2).setCell ⟨b, 10, none⟩ u3).setCell ⟨b, 11, none⟩ u4).setCell ⟨b, 12, none⟩ u5).setCell ⟨b, 13, none⟩ u6) (b + 1) v v1 v2 :=
  vown_one (vown_one (vown_one (vown_one (vown_one (vown_one (vown_one (h.base hc) (by omega)) (by omega)) (by omega)) (by omega)) (by omega)) (by omega)) (by omega)
theorem vown_set14 {w : World} {base base' b : Nat} {v : ValT} {v1 v2 u0 u1 u2 u3 u4 u5 u6 u7 u8 u9 u10 u11 u12 u13 : Value} (h : VOwn w base v v1 v2) (hb : b < base) (hc : base' ≤ base) :
    VOwn ((((((((((((((w.setCell ⟨b, 0, none⟩ u0).setCell ⟨b, 1, none⟩ u1).setCell ⟨b, 2, none⟩ u2).setCell ⟨b, 3, none⟩ u3).setCell ⟨b, 4, none⟩ u4).setCell ⟨b, 5, none⟩ u5).setCell ⟨b, 6, none⟩ u6).setCell ⟨b, 7, none⟩ u7).setCell ⟨b, 8, none⟩ u8).setCell ⟨b, 9, none⟩ u9).setCell ⟨b, 10, none⟩ u10).setCell ⟨b, 11, none⟩ u11).setCell ⟨b, 12, none⟩ u12).setCell ⟨b, 13, none⟩ u13) base' v v1 v2 := by
  refine VOwn.base (base := base) ?_ hc
  exact (vown_one (vown_one (vown_one (vown_one (vown_one (vown_one (vown_one (vown_one (vown_one (vown_one (vown_one (vown_one (vown_one (vown_one h hb) hb) hb) hb) hb) hb) hb) hb) hb) hb) hb) hb) hb) hb)
theorem vis_ok {l : List UInt8} {v : ValT} {ok : Bool} (h : VIs l v ok) : v.Ok := by
  cases ok with
  | true => exact (h.yes rfl).2.2
  | false =>
    rw [h.zero rfl]
    exact ⟨zA_ok, by simp, by simp⟩
theorem guess_fits {s A1 B1 A2 B2 A3 B3 A4 B4 A5 B5 A6 B6 A7 A8 B8 : ByteArray} {v : ValT} {ok : Bool} (hs : s.size ≤ 1048576) (h1 : CutIs 91 s A1 B1) (h2 : CutIs 64 A1 A2 B2) (h3 : CutIs 35 A2 A3 B3) (h4 : CutIs 58 A3 A4 B4) (h5 : CutIs 35 B2 A5 B5) (h6 : CutIs 58 A5 A6 B6)
    (h7 : A7.data.toList = Lib.trimSuffix B1.data.toList [93]) (h8 : CutIs 58 A7 A8 B8) (hv : VIs B8.data.toList v ok) : GuessT s.data.toList ⟨A4, B4, B3, A6, B6, B5, A8, v⟩ := by
  have z7 : A7.size ≤ B1.size := by
    have := trim_size B1
    have e : A7.data.toList.length ≤ B1.size := by rw [h7]; rw [← sz_list] at this; exact this
    rw [sz_list] at e
    exact e
  have hm : (1048576 : Nat) ≤ maxLen := by unfold maxLen; omega
  have a1 := h1.a; have b1 := h1.b; have a2 := h2.a; have b2 := h2.b; have a3 := h3.a; have b3 := h3.b; have a4 := h4.a; have b4 := h4.b; have a5 := h5.a; have b5 := h5.b; have a6 := h6.a; have b6 := h6.b; have a8 := h8.a
  refine ⟨⟨?_, ?_, ?_, ?_, ?_, ?_, ?_, ?_⟩, ?_⟩
  · show A4.size ≤ maxLen; omega
  · show B4.size ≤ maxLen; omega
  · show B3.size ≤ maxLen; omega
  · show A6.size ≤ maxLen; omega
  · show B6.size ≤ maxLen; omega
  · show B5.size ≤ maxLen; omega
  · show A8.size ≤ maxLen; omega
  · show v.Ok
    exact vis_ok hv
  · intro t' ht hf e
    have c := cuti_fits ⟨h1.e, h2.e, h3.e, h4.e, h5.e, h6.e, h7, h8.e⟩ t' hf e
    obtain ⟨e1, e2, e3, e4, e5, e6, e7, e8⟩ := c
    have ev : v = t'.g := by
      by_cases hc : t'.cav = e0
      · rw [if_pos hc] at e8
        rw [e8] at hv
        rw [vis_emp hv]
        have := hf.p7
        rw [hc] at this
        exact (noV_eq ((told_emp _).1 this)).symm
      · rw [if_neg hc] at e8
        exact (hv.all t'.g ht.g (hf.recd hc).2 e8.symm).2
    cases t'
    simp only at e1 e2 e3 e4 e5 e6 e7 ev
    rw [Go.WideShapes.bytes_inj e1, Go.WideShapes.bytes_inj e2, Go.WideShapes.bytes_inj e3, Go.WideShapes.bytes_inj e4, Go.WideShapes.bytes_inj e5, Go.WideShapes.bytes_inj e6, Go.WideShapes.bytes_inj e7, ev]
set_option maxHeartbeats 4000000 in
theorem guessTuple_any (s : ByteArray) (w : World) (hs : s.size ≤ 1048576) (hE : Env w) :
    Calls Tryz.prog 24 #[.string s] w fun e w' => (∃ t v1 v2, e = .returned (TRet t v1 v2) ∧ VOwn w' w.heap.size t.g v1 v2 ∧ Hid (GuessT s.data.toList t)) ∧ Below w.heap.size w w' := by
  have zs : s.size ≤ 1048576 := hs
  have b0 := bAl (bAl (Below.refl w.heap.size w) (.cells zT 37)) (.cells zT 37)
  have B := hide b0
  have R := hide ((RowIs.new w zT 37).keep (bAl (Below.refl _ _) (.cells zT 37)))
  have T : Hid (RowIs ((w.alloc (.cells zT 37)).alloc (.cells zT 37)) (w.heap.size + 1) zT 37) := hide (by
    have := RowIs.new (w.alloc (.cells zT 37)) zT 37
    simpa using this)
  have nab : ¬ w.heap.size + 1 = w.heap.size := by omega
  have nba : ¬ w.heap.size = w.heap.size + 1 := by omega
  have HE := hide hE
  clear b0 hE
  go_enter Tryz.func24, Tryz.ntmps24
  go_wp2_with fail
  refine (strCut2 91 s _ zs).mono ?_
  rintro e w1 ⟨⟨A1, B1, k1, rfl, c1⟩, hb1⟩
  replace R : Hid (RowIs w1 w.heap.size zT 37) := hide ((unhide R).keep hb1)
  replace T : Hid (RowIs w1 (w.heap.size + 1) #[.string ⟨#[]⟩, .string ⟨#[]⟩, .string ⟨#[]⟩, .string ⟨#[]⟩, .string ⟨#[]⟩, .string ⟨#[]⟩, .string ⟨#[]⟩, .int .i64 0, .int .i64 0, .int .i64 0, .string ⟨#[]⟩, .string ⟨#[]⟩, .slice none 0 0, .slice none 0 0] 37) := hide ((unhide T).keep hb1)
  replace B : Hid (Below w.heap.size w w1) := hide (bTr (unhide B) hb1)
  clear hb1
  have y1 := (unhide c1).a
  have y2 := (unhide c1).b
  go_wp2_with fail
  refine (strCut2 64 A1 _ (by omega)).mono ?_
  rintro e w2 ⟨⟨A2, B2, k2, rfl, c2⟩, hb2⟩
  replace R : Hid (RowIs w2 w.heap.size zT 37) := hide ((unhide R).keep hb2)
  replace T : Hid (RowIs w2 (w.heap.size + 1) #[.string ⟨#[]⟩, .string ⟨#[]⟩, .string ⟨#[]⟩, .string ⟨#[]⟩, .string ⟨#[]⟩, .string ⟨#[]⟩, .string ⟨#[]⟩, .int .i64 0, .int .i64 0, .int .i64 0, .string ⟨#[]⟩, .string ⟨#[]⟩, .slice none 0 0, .slice none 0 0] 37) := hide ((unhide T).keep hb2)
  replace B : Hid (Below w.heap.size w w2) := hide (bTr (unhide B) hb2)
  clear hb2
  have y3 := (unhide c2).a
  have y4 := (unhide c2).b
  go_wp2_with fail
  refine (strCut2 35 A2 _ (by omega)).mono ?_
  rintro e w3 ⟨⟨A3, B3, k3, rfl, c3⟩, hb3⟩
  replace R : Hid (RowIs w3 w.heap.size zT 37) := hide ((unhide R).keep hb3)
  replace T : Hid (RowIs w3 (w.heap.size + 1) #[.string ⟨#[]⟩, .string ⟨#[]⟩, .string ⟨#[]⟩, .string ⟨#[]⟩, .string ⟨#[]⟩, .string ⟨#[]⟩, .string ⟨#[]⟩, .int .i64 0, .int .i64 0, .int .i64 0, .string ⟨#[]⟩, .string ⟨#[]⟩, .slice none 0 0, .slice none 0 0] 37) := hide ((unhide T).keep hb3)
  replace B : Hid (Below w.heap.size w w3) := hide (bTr (unhide B) hb3)
  clear hb3
  have y5 := (unhide c3).a
  have y6 := (unhide c3).b
  have d2 := ((unhide T)).at (o := 2) (v := .string ⟨#[]⟩) rfl
  have f2 := ((unhide T)).froz 2
  go_wp2_with fail
  clear d2 f2
  refine (strCut2 58 A3 _ (by omega)).mono ?_
  rintro e w4 ⟨⟨A4, B4, k4, rfl, c4⟩, hb4⟩
  replace R : Hid (RowIs w4 w.heap.size zT 37) := hide (((unhide R).setOther (o' := 2) (.string B3) nba).keep hb4)
  replace T : Hid (RowIs w4 (w.heap.size + 1) #[.string ⟨#[]⟩, .string ⟨#[]⟩, .string B3, .string ⟨#[]⟩, .string ⟨#[]⟩, .string ⟨#[]⟩, .string ⟨#[]⟩, .int .i64 0, .int .i64 0, .int .i64 0, .string ⟨#[]⟩, .string ⟨#[]⟩, .slice none 0 0, .slice none 0 0] 37) := hide (((unhide T).set 2 (.string B3)).keep hb4)
  replace B : Hid (Below w.heap.size w w4) := hide (bTr (below_set (unhide B) (b := w.heap.size + 1) (o := 2) (v := .string B3) (by omega)) hb4)
  clear hb4
  have y7 := (unhide c4).a
  have y8 := (unhide c4).b
  have d0 := ((unhide T)).at (o := 0) (v := .string ⟨#[]⟩) rfl
  have f0 := ((unhide T)).froz 0
  have d1 := ((unhide T)).at (o := 1) (v := .string ⟨#[]⟩) rfl
  have f1 := ((unhide T)).froz 1
  go_wp2_with fail
  clear d0 d1 f0 f1
  refine (strCut2 35 B2 _ (by omega)).mono ?_
  rintro e w5 ⟨⟨A5, B5, k5, rfl, c5⟩, hb5⟩
  replace R : Hid (RowIs w5 w.heap.size zT 37) := hide ((((unhide R).setOther (o' := 0) (.string A4) nba).setOther (o' := 1) (.string B4) nba).keep hb5)
  replace T : Hid (RowIs w5 (w.heap.size + 1) #[.string A4, .string B4, .string B3, .string ⟨#[]⟩, .string ⟨#[]⟩, .string ⟨#[]⟩, .string ⟨#[]⟩, .int .i64 0, .int .i64 0, .int .i64 0, .string ⟨#[]⟩, .string ⟨#[]⟩, .slice none 0 0, .slice none 0 0] 37) := hide ((((unhide T).set 0 (.string A4)).set 1 (.string B4)).keep hb5)
  replace B : Hid (Below w.heap.size w w5) := hide (bTr (below_set (below_set (unhide B) (b := w.heap.size + 1) (o := 0) (v := .string A4) (by omega)) (b := w.heap.size + 1) (o := 1) (v := .string B4) (by omega)) hb5)
  clear hb5
  have y9 := (unhide c5).a
  have y10 := (unhide c5).b
  have d5 := ((unhide T)).at (o := 5) (v := .string ⟨#[]⟩) rfl
  have f5 := ((unhide T)).froz 5
  go_wp2_with fail
  clear d5 f5
  refine (strCut2 58 A5 _ (by omega)).mono ?_
  rintro e w6 ⟨⟨A6, B6, k6, rfl, c6⟩, hb6⟩
  replace R : Hid (RowIs w6 w.heap.size zT 37) := hide (((unhide R).setOther (o' := 5) (.string B5) nba).keep hb6)
  replace T : Hid (RowIs w6 (w.heap.size + 1) #[.string A4, .string B4, .string B3, .string ⟨#[]⟩, .string ⟨#[]⟩, .string B5, .string ⟨#[]⟩, .int .i64 0, .int .i64 0, .int .i64 0, .string ⟨#[]⟩, .string ⟨#[]⟩, .slice none 0 0, .slice none 0 0] 37) := hide (((unhide T).set 5 (.string B5)).keep hb6)
  replace B : Hid (Below w.heap.size w w6) := hide (bTr (below_set (unhide B) (b := w.heap.size + 1) (o := 5) (v := .string B5) (by omega)) hb6)
  clear hb6
  have y11 := (unhide c6).a
  have y12 := (unhide c6).b
  have d3 := ((unhide T)).at (o := 3) (v := .string ⟨#[]⟩) rfl
  have f3 := ((unhide T)).froz 3
  have d4 := ((unhide T)).at (o := 4) (v := .string ⟨#[]⟩) rfl
  have f4 := ((unhide T)).froz 4
  go_wp2_with fail
  clear d3 d4 f3 f4
  refine (trim2 B1 _ (by omega)).mono ?_
  rintro e w7 ⟨⟨A7, rfl, c7⟩, rfl⟩
  have y13 := (unhide c7).2
  go_wp2_with fail
  refine (strCut2 58 A7 _ (by omega)).mono ?_
  rintro e w8 ⟨⟨A8, B8, k8, rfl, c8⟩, hb8⟩
  replace R : Hid (RowIs w8 w.heap.size zT 37) := hide ((((unhide R).setOther (o' := 3) (.string A6) nba).setOther (o' := 4) (.string B6) nba).keep hb8)
  replace T : Hid (RowIs w8 (w.heap.size + 1) #[.string A4, .string B4, .string B3, .string A6, .string B6, .string B5, .string ⟨#[]⟩, .int .i64 0, .int .i64 0, .int .i64 0, .string ⟨#[]⟩, .string ⟨#[]⟩, .slice none 0 0, .slice none 0 0] 37) := hide ((((unhide T).set 3 (.string A6)).set 4 (.string B6)).keep hb8)
  replace B : Hid (Below w.heap.size w w8) := hide (bTr (below_set (below_set (unhide B) (b := w.heap.size + 1) (o := 3) (v := .string A6) (by omega)) (b := w.heap.size + 1) (o := 4) (v := .string B6) (by omega)) hb8)
  clear hb8
  have y14 := (unhide c8).a
  have y15 := (unhide c8).b
  have d6 := ((unhide T)).at (o := 6) (v := .string ⟨#[]⟩) rfl
  have f6 := ((unhide T)).froz 6
  go_wp2_with fail
  clear d6 f6
  have q9 := hide (fun w h => iReadValue_any B8 w (by omega) h)
  refine (unhide q9 _ ((unhide HE).keep (below_set (unhide B) (by omega)))).mono ?_
  rintro e w9 ⟨⟨v, v1, v2, ok, rfl, hown, hvi⟩, hb9⟩
  have s9 : w.heap.size + 2 ≤ (w8.setCell ⟨w.heap.size + 1, 6, none⟩ (.string A8)).heap.size := by have := (unhide T).lt; simp; omega
  replace R : Hid (RowIs w9 w.heap.size zT 37) := hide (((unhide R).setOther (o' := 6) (.string A8) nba).keep hb9)
  replace T : Hid (RowIs w9 (w.heap.size + 1) #[.string A4, .string B4, .string B3, .string A6, .string B6, .string B5, .string A8, .int .i64 0, .int .i64 0, .int .i64 0, .string ⟨#[]⟩, .string ⟨#[]⟩, .slice none 0 0, .slice none 0 0] 37) := hide (((unhide T).set 6 (.string A8)).keep hb9)
  replace B : Hid (Below w.heap.size w w9) := hide (bTr (below_set (unhide B) (b := w.heap.size + 1) (o := 6) (v := .string A8) (by omega)) hb9)
  have OW := hide hown
  clear hb9 hown q9
  have gu := hide (show GuessT s.data.toList ⟨A4, B4, B3, A6, B6, B5, A8, v⟩ from guess_fits hs (unhide c1) (unhide c2) (unhide c3) (unhide c4) (unhide c5) (unhide c6) (unhide c7).1 (unhide c8) (unhide hvi))
  clear c1 c2 c3 c4 c5 c6 c7 c8 hvi
  clear y1 y2 y3 y4 y5 y6 y7 y8 y9 y10 y11 y12 y13 y14 y15
  obtain ⟨a1, e1, hv1⟩ := own_sl (unhide OW).i
  subst hv1
  obtain ⟨a2, e2, hv2⟩ := own_sl (unhide OW).n
  subst hv2
  have d7 := ((unhide T)).at (o := 7) (v := .int .i64 0) rfl
  have f7 := ((unhide T)).froz 7
  have d8 := ((unhide T)).at (o := 8) (v := .int .i64 0) rfl
  have f8 := ((unhide T)).froz 8
  have d9 := ((unhide T)).at (o := 9) (v := .int .i64 0) rfl
  have f9 := ((unhide T)).froz 9
  have d10 := ((unhide T)).at (o := 10) (v := .string ⟨#[]⟩) rfl
  have f10 := ((unhide T)).froz 10
  have d11 := ((unhide T)).at (o := 11) (v := .string ⟨#[]⟩) rfl
  have f11 := ((unhide T)).froz 11
  have d12 := ((unhide T)).at (o := 12) (v := .slice none 0 0) rfl
  have f12 := ((unhide T)).froz 12
  have d13 := ((unhide T)).at (o := 13) (v := .slice none 0 0) rfl
  have f13 := ((unhide T)).froz 13
  obtain ⟨W, hW⟩ : ∃ W, W = (((((((w9.setCell ⟨w.heap.size + 1, 7, none⟩ (.int .i64 v.k)).setCell ⟨w.heap.size + 1, 8, none⟩ (.int .i64 v.a.x)).setCell ⟨w.heap.size + 1, 9, none⟩ (.int .i64 v.a.n)).setCell ⟨w.heap.size + 1, 10, none⟩ (.string v.a.t)).setCell ⟨w.heap.size + 1, 11, none⟩ (.string v.a.y)).setCell ⟨w.heap.size + 1, 12, none⟩ (.slice a1 v.items.length e1)).setCell ⟨w.heap.size + 1, 13, none⟩ (.slice a2 v.names.length e2)) := ⟨_, rfl⟩
  have HW := hide hW.symm
  have T2 : Hid (RowIs W (w.heap.size + 1) #[.string A4, .string B4, .string B3, .string A6, .string B6, .string B5, .string A8, .int .i64 v.k, .int .i64 v.a.x, .int .i64 v.a.n, .string v.a.t, .string v.a.y, .slice a1 v.items.length e1, .slice a2 v.names.length e2] 37) := hide (by rw [hW]; exact ((((((((unhide T).set 7 (.int .i64 v.k)).set 8 (.int .i64 v.a.x)).set 9 (.int .i64 v.a.n)).set 10 (.string v.a.t)).set 11 (.string v.a.y)).set 12 (.slice a1 v.items.length e1)).set 13 (.slice a2 v.names.length e2)))
  have R2 : Hid (RowIs W w.heap.size zT 37) := hide (by rw [hW]; exact ((((((((unhide R).setOther (o' := 7) (.int .i64 v.k) nba).setOther (o' := 8) (.int .i64 v.a.x) nba).setOther (o' := 9) (.int .i64 v.a.n) nba).setOther (o' := 10) (.string v.a.t) nba).setOther (o' := 11) (.string v.a.y) nba).setOther (o' := 12) (.slice a1 v.items.length e1) nba).setOther (o' := 13) (.slice a2 v.names.length e2) nba))
  have B2' : Hid (Below w.heap.size w W) := hide (by rw [hW]; exact (below_set (below_set (below_set (below_set (below_set (below_set (below_set (unhide B) (by omega)) (by omega)) (by omega)) (by omega)) (by omega)) (by omega)) (by omega)))
  have O2 : Hid (VOwn W (w.heap.size + 2) v (.slice a1 v.items.length e1) (.slice a2 v.names.length e2)) := hide (by rw [hW]; exact vown_set7 (unhide OW) s9)
  clear hW
  unfold VRet
  iterate 20 (try (first | go_values | go_skip | go_guarded | go_step | go_upon | go_simp))
  rw [unhide HW]
  clear HW OW R T B d7 d8 d9 d10 d11 d12 d13 f7 f8 f9 f10 f11 f12 f13
  have d0 := ((unhide T2)).at (o := 0) (v := .string A4) rfl
  have d1 := ((unhide T2)).at (o := 1) (v := .string B4) rfl
  have d2 := ((unhide T2)).at (o := 2) (v := .string B3) rfl
  have d3 := ((unhide T2)).at (o := 3) (v := .string A6) rfl
  have d4 := ((unhide T2)).at (o := 4) (v := .string B6) rfl
  have d5 := ((unhide T2)).at (o := 5) (v := .string B5) rfl
  have d6 := ((unhide T2)).at (o := 6) (v := .string A8) rfl
  have d7 := ((unhide T2)).at (o := 7) (v := .int .i64 v.k) rfl
  have d8 := ((unhide T2)).at (o := 8) (v := .int .i64 v.a.x) rfl
  have d9 := ((unhide T2)).at (o := 9) (v := .int .i64 v.a.n) rfl
  have d10 := ((unhide T2)).at (o := 10) (v := .string v.a.t) rfl
  have d11 := ((unhide T2)).at (o := 11) (v := .string v.a.y) rfl
  have d12 := ((unhide T2)).at (o := 12) (v := .slice a1 v.items.length e1) rfl
  have d13 := ((unhide T2)).at (o := 13) (v := .slice a2 v.names.length e2) rfl
  have r0 := ((unhide R2)).at (o := 0) (v := .string ⟨#[]⟩) rfl
  have f0 := ((unhide R2)).froz 0
  have r1 := ((unhide R2)).at (o := 1) (v := .string ⟨#[]⟩) rfl
  have f1 := ((unhide R2)).froz 1
  have r2 := ((unhide R2)).at (o := 2) (v := .string ⟨#[]⟩) rfl
  have f2 := ((unhide R2)).froz 2
  have r3 := ((unhide R2)).at (o := 3) (v := .string ⟨#[]⟩) rfl
  have f3 := ((unhide R2)).froz 3
  have r4 := ((unhide R2)).at (o := 4) (v := .string ⟨#[]⟩) rfl
  have f4 := ((unhide R2)).froz 4
  have r5 := ((unhide R2)).at (o := 5) (v := .string ⟨#[]⟩) rfl
  have f5 := ((unhide R2)).froz 5
  have r6 := ((unhide R2)).at (o := 6) (v := .string ⟨#[]⟩) rfl
  have f6 := ((unhide R2)).froz 6
  have r7 := ((unhide R2)).at (o := 7) (v := .int .i64 0) rfl
  have f7 := ((unhide R2)).froz 7
  have r8 := ((unhide R2)).at (o := 8) (v := .int .i64 0) rfl
  have f8 := ((unhide R2)).froz 8
  have r9 := ((unhide R2)).at (o := 9) (v := .int .i64 0) rfl
  have f9 := ((unhide R2)).froz 9
  have r10 := ((unhide R2)).at (o := 10) (v := .string ⟨#[]⟩) rfl
  have f10 := ((unhide R2)).froz 10
  have r11 := ((unhide R2)).at (o := 11) (v := .string ⟨#[]⟩) rfl
  have f11 := ((unhide R2)).froz 11
  have r12 := ((unhide R2)).at (o := 12) (v := .slice none 0 0) rfl
  have f12 := ((unhide R2)).froz 12
  have r13 := ((unhide R2)).at (o := 13) (v := .slice none 0 0) rfl
  have f13 := ((unhide R2)).froz 13
  go_wp2_with fail
  refine bodyPost_ret (v := TRet ⟨A4, B4, B3, A6, B6, B5, A8, v⟩ (.slice a1 v.items.length e1) (.slice a2 v.names.length e2)) (by simp [results, Tryz.results24, go_sem, TRet, r0, r1, r2, r3, r4, r5, r6, r7, r8, r9, r10, r11, r12, r13]) rfl ⟨⟨_, _, _, rfl, ?_, gu⟩, ?_⟩
  · exact vown_set14 (unhide O2) (by omega) (by omega)
  · exact (below_set (below_set (below_set (below_set (below_set (below_set (below_set (below_set (below_set (below_set (below_set (below_set (below_set (below_set (unhide B2') (Nat.le_refl _)) (Nat.le_refl _)) (Nat.le_refl _)) (Nat.le_refl _)) (Nat.le_refl _)) (Nat.le_refl _)) (Nat.le_refl _)) (Nat.le_refl _)) (Nat.le_refl _)) (Nat.le_refl _)) (Nat.le_refl _)) (Nat.le_refl _)) (Nat.le_refl _)) (Nat.le_refl _))
end Go.Proofs.YticidjceljjfnaaGreatDoor.V
/- impl.hasTupleText. -/
namespace Go.Proofs.YticidjceljjfnaaGreatDoor.V
open Go.RowKit
set_option maxRecDepth 20000

set_option maxHeartbeats 40000000 in
theorem hasTupleText_any (t : TupT) (ht : t.Ok) (a1 a2 : Option Addr) (l1 c1 l2 c2 : Nat) (w : World) (hl : l1 ≤ maxLen) (hs1 : SlA w a1 l1 t.g.items) (hs2 : SlS w a2 l2 t.g.names) :
    Calls Tryz.prog 18 #[tAg t a1 l1 c1 a2 l2 c2] w fun e w' => RetB e (Form t) ∧ Below w.heap.size w w' := by
  obtain ⟨W0, hW0⟩ : ∃ W, W = w.alloc (.cells #[.string t.ty, .string t.id, .string t.rel, .string t.sty, .string t.sid, .string t.srel, .string t.cav, .int .i64 t.g.k, .int .i64 t.g.a.x, .int .i64 t.g.a.n, .string t.g.a.t, .string t.g.a.y, .slice a1 l1 c1, .slice a2 l2 c2] 37) := ⟨_, rfl⟩
  have ta : TupAt W0 w.heap.size t (.slice a1 l1 c1) (.slice a2 l2 c2) := by rw [hW0]; exact TupAt.new _ _ _ _ _
  have b0 : Below w.heap.size w W0 := by rw [hW0]; exact bAl (Below.refl _ _) _
  have no := fun (h : ¬ Form t) => (show (false = true ↔ Form t) from ⟨fun h => (by cases h), fun h2 => absurd h2 h⟩)
  have NO := hide no
  have HS1 := hide hs1
  have HS2 := hide hs2
  have TA := hide ta
  have B0 := hide b0
  have HW := hide hW0
  have q0 := hide (fun w => iGoodName_any t.ty ht.h_ty w)
  have q1 := hide (fun w => isId_any t.id ht.h_id w)
  have q2 := hide (fun w => iGoodName_any t.rel ht.h_rel w)
  have q3 := hide (fun w => iGoodName_any t.sty ht.h_sty w)
  have q4 := hide (fun w => isSubId_any t.sid ht.h_sid w)
  have q5 := hide (fun w => isNameOrNone_any t.srel ht.h_srel w)
  have q6 := hide (fun w => isNameOrNone_any t.cav ht.h_cav w)
  have q7 := hide (fun w h1 h2 => isToldGiven_any t.cav t.g ht.g a1 a2 l1 c1 l2 c2 w hl h1 h2)
  clear no hs1 hs2 ta b0 ht hl
  have d0 := (unhide TA).d0
  go_enter Tryz.func18, Tryz.ntmps18
  go_wp2_with fail
  rw [← unhide HW]
  clear HW
  refine (unhide q0 _).mono ?_
  rintro e w1 ⟨rfl, hb⟩
  have hbb : (goodName t.ty = true ↔ goodName t.ty = true) := Iff.rfl
  obtain ⟨b, hgb⟩ : ∃ b, goodName t.ty = b := ⟨_, rfl⟩
  rw [hgb]
  have B1 := hide (bTr (unhide B0) hb)
  replace TA := hide ((unhide TA).keep hb)
  clear d0
  clear hb q0 B0
  cases b
  · have hn := hide (unhide NO (fun h => (by have := h.p0; rw [hgb] at this; cases this)))
    clear hgb
    go_wp2_with fail
    go_ret
    exact ⟨retB (b := false) (unhide hn), unhide B1⟩
  have P0 := hide (hgb)
  clear hgb
  have d1 := (unhide TA).d1
  go_wp2_with fail
  refine (unhide q1 _).mono ?_
  rintro e w2 ⟨rfl, hb⟩
  have hbb : (idB t.id = true ↔ idB t.id = true) := Iff.rfl
  obtain ⟨b, hgb⟩ : ∃ b, idB t.id = b := ⟨_, rfl⟩
  rw [hgb]
  have B2 := hide (bTr (unhide B1) hb)
  replace TA := hide ((unhide TA).keep hb)
  clear d1
  clear hb q1 B1
  cases b
  · have hn := hide (unhide NO (fun h => (by have := h.p1; rw [hgb] at this; cases this)))
    clear hgb
    go_wp2_with fail
    go_ret
    exact ⟨retB (b := false) (unhide hn), unhide B2⟩
  have P1 := hide (hgb)
  clear hgb
  have d2 := (unhide TA).d2
  go_wp2_with fail
  refine (unhide q2 _).mono ?_
  rintro e w3 ⟨rfl, hb⟩
  have hbb : (goodName t.rel = true ↔ goodName t.rel = true) := Iff.rfl
  obtain ⟨b, hgb⟩ : ∃ b, goodName t.rel = b := ⟨_, rfl⟩
  rw [hgb]
  have B3 := hide (bTr (unhide B2) hb)
  replace TA := hide ((unhide TA).keep hb)
  clear d2
  clear hb q2 B2
  cases b
  · have hn := hide (unhide NO (fun h => (by have := h.p2; rw [hgb] at this; cases this)))
    clear hgb
    go_wp2_with fail
    go_ret
    exact ⟨retB (b := false) (unhide hn), unhide B3⟩
  have P2 := hide (hgb)
  clear hgb
  have d3 := (unhide TA).d3
  go_wp2_with fail
  refine (unhide q3 _).mono ?_
  rintro e w4 ⟨rfl, hb⟩
  have hbb : (goodName t.sty = true ↔ goodName t.sty = true) := Iff.rfl
  obtain ⟨b, hgb⟩ : ∃ b, goodName t.sty = b := ⟨_, rfl⟩
  rw [hgb]
  have B4 := hide (bTr (unhide B3) hb)
  replace TA := hide ((unhide TA).keep hb)
  clear d3
  clear hb q3 B3
  cases b
  · have hn := hide (unhide NO (fun h => (by have := h.p3; rw [hgb] at this; cases this)))
    clear hgb
    go_wp2_with fail
    go_ret
    exact ⟨retB (b := false) (unhide hn), unhide B4⟩
  have P3 := hide (hgb)
  clear hgb
  have d4 := (unhide TA).d4
  go_wp2_with fail
  refine (unhide q4 _).mono ?_
  rintro e w5 ⟨⟨b, rfl, hgb⟩, hb⟩
  have B5 := hide (bTr (unhide B4) hb)
  replace TA := hide ((unhide TA).keep hb)
  clear d4
  clear hb q4 B4
  cases b
  · have hn := hide (unhide NO (fun h => (by have := hgb.2 h.p4; cases this)))
    clear hgb
    go_wp2_with fail
    go_ret
    exact ⟨retB (b := false) (unhide hn), unhide B5⟩
  have P4 := hide (hgb.1 rfl)
  clear hgb
  have d5 := (unhide TA).d5
  go_wp2_with fail
  refine (unhide q5 _).mono ?_
  rintro e w6 ⟨⟨b, rfl, hgb⟩, hb⟩
  have B6 := hide (bTr (unhide B5) hb)
  replace TA := hide ((unhide TA).keep hb)
  clear d5
  clear hb q5 B5
  cases b
  · have hn := hide (unhide NO (fun h => (by have := hgb.2 h.p5; cases this)))
    clear hgb
    go_wp2_with fail
    go_ret
    exact ⟨retB (b := false) (unhide hn), unhide B6⟩
  have P5 := hide (hgb.1 rfl)
  clear hgb
  have d6 := (unhide TA).d6
  go_wp2_with fail
  refine (unhide q6 _).mono ?_
  rintro e w7 ⟨⟨b, rfl, hgb⟩, hb⟩
  have B7 := hide (bTr (unhide B6) hb)
  replace TA := hide ((unhide TA).keep hb)
  clear d6
  clear hb q6 B6
  cases b
  · have hn := hide (unhide NO (fun h => (by have := hgb.2 h.p6; cases this)))
    clear hgb
    go_wp2_with fail
    go_ret
    exact ⟨retB (b := false) (unhide hn), unhide B7⟩
  have P6 := hide (hgb.1 rfl)
  clear hgb
  have d6 := (unhide TA).d6
  have d7 := (unhide TA).d7
  have d8 := (unhide TA).d8
  have d9 := (unhide TA).d9
  have d10 := (unhide TA).d10
  have d11 := (unhide TA).d11
  have d12 := (unhide TA).d12
  have d13 := (unhide TA).d13
  go_wp2_with fail
  refine (unhide q7 _ ((unhide HS1).keep (unhide B7)) ((unhide HS2).keep (unhide B7))).mono ?_
  rintro e w8 ⟨⟨b, rfl, hgb⟩, hb⟩
  have B8 := hide (bTr (unhide B7) hb)
  have HG := hide (show b = true ↔ Form t from ⟨fun h => ⟨unhide P0, unhide P1, unhide P2, unhide P3, unhide P4, unhide P5, unhide P6, hgb.1 h⟩, fun h => hgb.2 h.p7⟩)
  clear d6 d7 d8 d9 d10 d11 d12 d13
  clear hgb hb B7
  go_wp2_with fail
  go_ret
  exact ⟨retB (unhide HG), unhide B8⟩
end Go.Proofs.YticidjceljjfnaaGreatDoor.V
