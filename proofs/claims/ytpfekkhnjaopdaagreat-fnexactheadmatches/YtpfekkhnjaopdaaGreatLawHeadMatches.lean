/- The row of laws.FnExactHeadMatches: its walk, then the row's step. -/
import Derived.Test.YtpfekkhnjaopdaaGreatRows
import Derived.Test.YtpfekkhnjaopdaaGreatNHy
import Derived.Test.YtpfekkhnjaopdaaGreatZTs
import Derived.WalkKit
import Derived.ProofKit
import Derived.OpenShut
import Derived.ShutString
import Derived.ChangeOld
import Derived.Below
import Derived.Lib.SmallJoins
import Derived.Deep.RegionHeld3
namespace Go.Proofs.YtpfekkhnjaopdaaGreat.fnExactHeadMatches
open Go.ChangeShapes Go.WideShapes Go.ChangeAt Go.RowKit Go.Joins
open Go.ChangeMaps (open_string shut_string)
set_option linter.unusedVariables false

theorem own : ownKnob Tryz.prog.godebug = none := by kernel_rfl
theorem laidOut : laidOutB Tryz.prog = true := by kernel_rfl

open V in
set_option maxRecDepth 40000 in
set_option maxHeartbeats 8000000 in
theorem walk (hd : V.Hd) (xs : List V.ThingT) (h : V.HeadT) (a : V.AtomT) (w : World) (hs : V.SqThing w 0 hd xs) (hn : ∀ q ∈ xs, V.ThingN q) (hl : xs.length ≤ maxLen) (ho : h.Ok) (ha : a.Ok) :
    Calls Tryz.prog 4 #[.slice hd.a hd.len hd.cap, V.hAgg h, V.encA a] w fun r w' => r = .returned (.bool true) ∧ Below w.heap.size w w' := by
  have qz := hide (fun q w h0 h1 hs => V.szThingS_n hd xs q w h0 h1 hn hl hs)
  have qt := hide (fun w g hs => V.toThingS_n hd xs w g hs)
  have qzh := hide (fun l w h0 h1 => V.szHead_any h l w h0 h1 ho)
  have qza := hide (fun l w h0 h1 => szAtom_any a.x a.n l a.t a.y w h0 h1 ha.t9 ha.y9)
  have qth := hide (fun w => V.toHead_any h w)
  have qta := hide (fun w => toAtom_any a.x a.n a.t a.y w)
  have qs := hide (fun (hd : V.Hd) (w : World) (hs : V.SqThing w 0 hd xs) => (show Calls Tryz.prog 17 #[.slice hd.a hd.len hd.cap, V.hAgg h, V.encA a] w fun r w' => V.RetB r (V.HMs xs h a) ∧ Below w.heap.size w w' from by
    obtain ⟨lt, e, hs⟩ := hs
    rw [← e]
    exact V.sHeadMatches_n hd lt h a w (fun z hz => hn _ (by rw [← e]; exact List.mem_map_of_mem hz)) (by rw [← e] at hl; simpa using hl) hs ho ha))
  have qi := hide (fun (hd : V.Hd) (w : World) (hs : V.SqThing w 0 hd xs) => (show Calls Tryz.prog 19 #[.slice hd.a hd.len hd.cap, V.hAgg h, V.encA a] w fun r w' => V.RetB r (V.HMs xs h a) ∧ Below w.heap.size w w' from by
    obtain ⟨lt, e, hs⟩ := hs
    rw [← e]
    exact V.iHeadMatches_n hd lt h a w (fun z hz => hn _ (by rw [← e]; exact List.mem_map_of_mem hz)) (by rw [← e] at hl; simpa using hl) hs ho ha))
  have qe := hide (fun h g w h1 h2 => V.eqThingS_n h g xs w hl hn h1 h2)
  have HS := hide hs
  obtain ⟨W0, hW0⟩ : ∃ W, W = (w.alloc (.cells #[.int .i64 h.k, .int .i64 h.x, .int .i64 h.n, .string h.t, .string h.y, .string h.ty] 39)).alloc (.cells #[.int .i64 a.x, .int .i64 a.n, .string a.t, .string a.y] 24) := ⟨_, rfl⟩
  have B : Hid (Below w.heap.size w W0) := hide (by rw [hW0]; exact bAl (bAl (Below.refl _ _) _) _)
  have RH : Hid (V.RowIs W0 w.heap.size #[.int .i64 h.k, .int .i64 h.x, .int .i64 h.n, .string h.t, .string h.y, .string h.ty] 39) := hide (by rw [hW0]; exact (V.RowIs.new w _ _).keep (bAl (Below.refl _ _) _))
  have RA : Hid (V.RowIs W0 (w.heap.size + 1) #[.int .i64 a.x, .int .i64 a.n, .string a.t, .string a.y] 24) := hide (by rw [hW0]; have := V.RowIs.new (w.alloc (.cells #[.int .i64 h.k, .int .i64 h.x, .int .i64 h.n, .string h.t, .string h.y, .string h.ty] 39)) #[.int .i64 a.x, .int .i64 a.n, .string a.t, .string a.y] 24; simpa using this)
  have HW := hide hW0.symm
  clear hs hn hl ho ha hW0
  unfold V.encA at qs qi ⊢
  go_enter Tryz.func4, Tryz.ntmps4
  go_wp2_with fail
  rw [unhide HW]
  refine (unhide qz _ _ (by omega) (by omega) ((unhide HS).keep (unhide B))).mono ?_
  rintro r w1 ⟨⟨m, hm1, hm2, hm3, rfl⟩, hb1⟩
  replace B := hide (bTr (unhide B) hb1)
  replace RH := hide ((unhide RH).keep hb1)
  replace RA := hide ((unhide RA).keep hb1)
  clear hb1 qz HW
  by_cases hlt : m < 0
  · go_wp2_with fail
    go_ret
    exact ⟨rfl, unhide B⟩
  have QT := hide (fun w hs => unhide qt w (hm3 (by omega)) hs)
  clear qt hm3
  have c0 := (unhide RH).at (o := 0) (v := .int .i64 h.k) rfl
  have c1 := (unhide RH).at (o := 1) (v := .int .i64 h.x) rfl
  have c2 := (unhide RH).at (o := 2) (v := .int .i64 h.n) rfl
  have c3 := (unhide RH).at (o := 3) (v := .string h.t) rfl
  have c4 := (unhide RH).at (o := 4) (v := .string h.y) rfl
  have c5 := (unhide RH).at (o := 5) (v := .string h.ty) rfl
  go_wp2_with fail
  refine (unhide qzh _ _ (by omega) (by omega)).mono ?_
  rintro r w2 ⟨⟨m2, hm3, hm4, rfl⟩, hb2⟩
  replace B := hide (bTr (unhide B) hb2)
  replace RH := hide ((unhide RH).keep hb2)
  replace RA := hide ((unhide RA).keep hb2)
  clear hb2 qzh c0 c1 c2 c3 c4 c5
  by_cases hlt2 : m2 < 0
  · go_wp2_with fail
    go_ret
    exact ⟨rfl, unhide B⟩
  have d0 := (unhide RA).at (o := 0) (v := .int .i64 a.x) rfl
  have d1 := (unhide RA).at (o := 1) (v := .int .i64 a.n) rfl
  have d2 := (unhide RA).at (o := 2) (v := .string a.t) rfl
  have d3 := (unhide RA).at (o := 3) (v := .string a.y) rfl
  go_wp2_with fail
  refine (unhide qza _ _ (by omega) (by omega)).mono ?_
  rintro r w3 ⟨⟨m3, hm5, hm6, rfl⟩, hb3⟩
  replace B := hide (bTr (unhide B) hb3)
  replace RH := hide ((unhide RH).keep hb3)
  replace RA := hide ((unhide RA).keep hb3)
  clear hb3 qza d0 d1 d2 d3
  by_cases hlt3 : m3 < 0
  · go_wp2_with fail
    go_ret
    exact ⟨rfl, unhide B⟩
  have Y := hide (And.intro ((unhide RH).at (o := 0) (v := .int .i64 h.k) rfl) (And.intro ((unhide RH).at (o := 1) (v := .int .i64 h.x) rfl) (And.intro ((unhide RH).at (o := 2) (v := .int .i64 h.n) rfl) (And.intro ((unhide RH).at (o := 3) (v := .string h.t) rfl) (And.intro ((unhide RH).at (o := 4) (v := .string h.y) rfl) (And.intro ((unhide RH).at (o := 5) (v := .string h.ty) rfl) (And.intro ((unhide RA).at (o := 0) (v := .int .i64 a.x) rfl) (And.intro ((unhide RA).at (o := 1) (v := .int .i64 a.n) rfl) (And.intro ((unhide RA).at (o := 2) (v := .string a.t) rfl) ((unhide RA).at (o := 3) (v := .string a.y) rfl))))))))))
  go_wp2_with fail
  go_region_held3 (fun w' => w'.cell? ⟨w.heap.size, 0, none⟩ = some (.int .i64 h.k) ∧ w'.cell? ⟨w.heap.size, 1, none⟩ = some (.int .i64 h.x) ∧ w'.cell? ⟨w.heap.size, 2, none⟩ = some (.int .i64 h.n) ∧ w'.cell? ⟨w.heap.size, 3, none⟩ = some (.string h.t) ∧ w'.cell? ⟨w.heap.size, 4, none⟩ = some (.string h.y) ∧ w'.cell? ⟨w.heap.size, 5, none⟩ = some (.string h.ty) ∧ w'.cell? ⟨w.heap.size + 1, 0, none⟩ = some (.int .i64 a.x) ∧ w'.cell? ⟨w.heap.size + 1, 1, none⟩ = some (.int .i64 a.n) ∧ w'.cell? ⟨w.heap.size + 1, 2, none⟩ = some (.string a.t) ∧ w'.cell? ⟨w.heap.size + 1, 3, none⟩ = some (.string a.y))
    (first | exact unhide Y | exact unhide Ya | exact unhide Yb | exact unhide Yc | exact unhide Yd)
    (first
      | (go_at_call 8; refine (unhide QT _ ((unhide HS).keep (unhide B).drew)).mono ?_; rintro e wa ⟨⟨h2, rfl, m2'⟩, hbq⟩; replace hbq := undrew hbq; have RHa := hide ((unhide RH).keep hbq); have RAa := hide ((unhide RA).keep hbq); have Ya := hide (And.intro ((unhide RHa).at (o := 0) (v := .int .i64 h.k) rfl) (And.intro ((unhide RHa).at (o := 1) (v := .int .i64 h.x) rfl) (And.intro ((unhide RHa).at (o := 2) (v := .int .i64 h.n) rfl) (And.intro ((unhide RHa).at (o := 3) (v := .string h.t) rfl) (And.intro ((unhide RHa).at (o := 4) (v := .string h.y) rfl) (And.intro ((unhide RHa).at (o := 5) (v := .string h.ty) rfl) (And.intro ((unhide RAa).at (o := 0) (v := .int .i64 a.x) rfl) (And.intro ((unhide RAa).at (o := 1) (v := .int .i64 a.n) rfl) (And.intro ((unhide RAa).at (o := 2) (v := .string a.t) rfl) ((unhide RAa).at (o := 3) (v := .string a.y) rfl)))))))))); have Ba := hide (bTr (unhide B) hbq); have M2 := hide (m2'.lo (Nat.zero_le _)); clear m2'; clear hbq)
      | (go_at_call 18; refine (unhide qth _).mono ?_; rintro e wb ⟨rfl, hbq⟩; have RHb := hide ((unhide RHa).keep hbq); have RAb := hide ((unhide RAa).keep hbq); have Yb := hide (And.intro ((unhide RHb).at (o := 0) (v := .int .i64 h.k) rfl) (And.intro ((unhide RHb).at (o := 1) (v := .int .i64 h.x) rfl) (And.intro ((unhide RHb).at (o := 2) (v := .int .i64 h.n) rfl) (And.intro ((unhide RHb).at (o := 3) (v := .string h.t) rfl) (And.intro ((unhide RHb).at (o := 4) (v := .string h.y) rfl) (And.intro ((unhide RHb).at (o := 5) (v := .string h.ty) rfl) (And.intro ((unhide RAb).at (o := 0) (v := .int .i64 a.x) rfl) (And.intro ((unhide RAb).at (o := 1) (v := .int .i64 a.n) rfl) (And.intro ((unhide RAb).at (o := 2) (v := .string a.t) rfl) ((unhide RAb).at (o := 3) (v := .string a.y) rfl)))))))))); have Bb := hide (bTr (unhide Ba) hbq); have M2b := hide ((unhide M2).keep hbq); clear hbq)
      | (go_at_call 9; refine (unhide qta _).mono ?_; rintro e wc ⟨rfl, hbq⟩; have RHc := hide ((unhide RHb).keep hbq); have RAc := hide ((unhide RAb).keep hbq); have Yc := hide (And.intro ((unhide RHc).at (o := 0) (v := .int .i64 h.k) rfl) (And.intro ((unhide RHc).at (o := 1) (v := .int .i64 h.x) rfl) (And.intro ((unhide RHc).at (o := 2) (v := .int .i64 h.n) rfl) (And.intro ((unhide RHc).at (o := 3) (v := .string h.t) rfl) (And.intro ((unhide RHc).at (o := 4) (v := .string h.y) rfl) (And.intro ((unhide RHc).at (o := 5) (v := .string h.ty) rfl) (And.intro ((unhide RAc).at (o := 0) (v := .int .i64 a.x) rfl) (And.intro ((unhide RAc).at (o := 1) (v := .int .i64 a.n) rfl) (And.intro ((unhide RAc).at (o := 2) (v := .string a.t) rfl) ((unhide RAc).at (o := 3) (v := .string a.y) rfl)))))))))); have Bc := hide (bTr (unhide Bb) hbq); have M2c := hide ((unhide M2b).keep hbq); clear hbq)
      | (go_at_call 17; refine (unhide qs h2 _ (unhide M2c)).mono ?_; rintro e wd ⟨⟨g, rfl, hg⟩, hbq⟩; have RHd := hide ((unhide RHc).keep hbq); have RAd := hide ((unhide RAc).keep hbq); have Yd := hide (And.intro ((unhide RHd).at (o := 0) (v := .int .i64 h.k) rfl) (And.intro ((unhide RHd).at (o := 1) (v := .int .i64 h.x) rfl) (And.intro ((unhide RHd).at (o := 2) (v := .int .i64 h.n) rfl) (And.intro ((unhide RHd).at (o := 3) (v := .string h.t) rfl) (And.intro ((unhide RHd).at (o := 4) (v := .string h.y) rfl) (And.intro ((unhide RHd).at (o := 5) (v := .string h.ty) rfl) (And.intro ((unhide RAd).at (o := 0) (v := .int .i64 a.x) rfl) (And.intro ((unhide RAd).at (o := 1) (v := .int .i64 a.n) rfl) (And.intro ((unhide RAd).at (o := 2) (v := .string a.t) rfl) ((unhide RAd).at (o := 3) (v := .string a.y) rfl)))))))))); have Bd := hide (bTr (unhide Bc) hbq); have HG := hide hg; clear hg; clear hbq))
  replace RH := RHd
  replace RA := RAd
  replace B := Bd
  clear Y Ya Yb Yc Yd RHa RAa RHb RAb RHc RAc Ba Bb Bc M2 M2b M2c RHd RAd Bd qs
  go_wp2_with fail
  refine (unhide QT _ ((unhide HS).keep (unhide B))).mono ?_
  rintro r w5 ⟨⟨h4, rfl, m4⟩, hb5⟩
  have M4 := hide (m4.lo (Nat.zero_le _))
  replace B := hide (bTr (unhide B) hb5)
  replace RH := hide ((unhide RH).keep hb5)
  replace RA := hide ((unhide RA).keep hb5)
  clear hb5 m4
  have Y := hide (And.intro ((unhide RH).at (o := 0) (v := .int .i64 h.k) rfl) (And.intro ((unhide RH).at (o := 1) (v := .int .i64 h.x) rfl) (And.intro ((unhide RH).at (o := 2) (v := .int .i64 h.n) rfl) (And.intro ((unhide RH).at (o := 3) (v := .string h.t) rfl) (And.intro ((unhide RH).at (o := 4) (v := .string h.y) rfl) (And.intro ((unhide RH).at (o := 5) (v := .string h.ty) rfl) (And.intro ((unhide RA).at (o := 0) (v := .int .i64 a.x) rfl) (And.intro ((unhide RA).at (o := 1) (v := .int .i64 a.n) rfl) (And.intro ((unhide RA).at (o := 2) (v := .string a.t) rfl) ((unhide RA).at (o := 3) (v := .string a.y) rfl))))))))))
  go_wp2_with fail
  go_region_held3 (fun w' => w'.cell? ⟨w.heap.size, 0, none⟩ = some (.int .i64 h.k) ∧ w'.cell? ⟨w.heap.size, 1, none⟩ = some (.int .i64 h.x) ∧ w'.cell? ⟨w.heap.size, 2, none⟩ = some (.int .i64 h.n) ∧ w'.cell? ⟨w.heap.size, 3, none⟩ = some (.string h.t) ∧ w'.cell? ⟨w.heap.size, 4, none⟩ = some (.string h.y) ∧ w'.cell? ⟨w.heap.size, 5, none⟩ = some (.string h.ty) ∧ w'.cell? ⟨w.heap.size + 1, 0, none⟩ = some (.int .i64 a.x) ∧ w'.cell? ⟨w.heap.size + 1, 1, none⟩ = some (.int .i64 a.n) ∧ w'.cell? ⟨w.heap.size + 1, 2, none⟩ = some (.string a.t) ∧ w'.cell? ⟨w.heap.size + 1, 3, none⟩ = some (.string a.y))
    (first | exact unhide Y | exact unhide Ye | exact unhide Yf | exact unhide Yg)
    (first
      | (go_at_call 18; refine (unhide qth _).mono ?_; rintro e we ⟨rfl, hbq⟩; replace hbq := undrew hbq; have RHe := hide ((unhide RH).keep hbq); have RAe := hide ((unhide RA).keep hbq); have Ye := hide (And.intro ((unhide RHe).at (o := 0) (v := .int .i64 h.k) rfl) (And.intro ((unhide RHe).at (o := 1) (v := .int .i64 h.x) rfl) (And.intro ((unhide RHe).at (o := 2) (v := .int .i64 h.n) rfl) (And.intro ((unhide RHe).at (o := 3) (v := .string h.t) rfl) (And.intro ((unhide RHe).at (o := 4) (v := .string h.y) rfl) (And.intro ((unhide RHe).at (o := 5) (v := .string h.ty) rfl) (And.intro ((unhide RAe).at (o := 0) (v := .int .i64 a.x) rfl) (And.intro ((unhide RAe).at (o := 1) (v := .int .i64 a.n) rfl) (And.intro ((unhide RAe).at (o := 2) (v := .string a.t) rfl) ((unhide RAe).at (o := 3) (v := .string a.y) rfl)))))))))); have Be := hide (bTr (unhide B) hbq); have M4e := hide ((unhide M4).keep hbq); clear hbq)
      | (go_at_call 9; refine (unhide qta _).mono ?_; rintro e wf ⟨rfl, hbq⟩; have RHf := hide ((unhide RHe).keep hbq); have RAf := hide ((unhide RAe).keep hbq); have Yf := hide (And.intro ((unhide RHf).at (o := 0) (v := .int .i64 h.k) rfl) (And.intro ((unhide RHf).at (o := 1) (v := .int .i64 h.x) rfl) (And.intro ((unhide RHf).at (o := 2) (v := .int .i64 h.n) rfl) (And.intro ((unhide RHf).at (o := 3) (v := .string h.t) rfl) (And.intro ((unhide RHf).at (o := 4) (v := .string h.y) rfl) (And.intro ((unhide RHf).at (o := 5) (v := .string h.ty) rfl) (And.intro ((unhide RAf).at (o := 0) (v := .int .i64 a.x) rfl) (And.intro ((unhide RAf).at (o := 1) (v := .int .i64 a.n) rfl) (And.intro ((unhide RAf).at (o := 2) (v := .string a.t) rfl) ((unhide RAf).at (o := 3) (v := .string a.y) rfl)))))))))); have Bf := hide (bTr (unhide Be) hbq); have M4f := hide ((unhide M4e).keep hbq); clear hbq)
      | (go_at_call 19; refine (unhide qi h4 _ (unhide M4f)).mono ?_; rintro e wg ⟨⟨g', rfl, hg'⟩, hbq⟩; have RHg := hide ((unhide RHf).keep hbq); have RAg := hide ((unhide RAf).keep hbq); have Yg := hide (And.intro ((unhide RHg).at (o := 0) (v := .int .i64 h.k) rfl) (And.intro ((unhide RHg).at (o := 1) (v := .int .i64 h.x) rfl) (And.intro ((unhide RHg).at (o := 2) (v := .int .i64 h.n) rfl) (And.intro ((unhide RHg).at (o := 3) (v := .string h.t) rfl) (And.intro ((unhide RHg).at (o := 4) (v := .string h.y) rfl) (And.intro ((unhide RHg).at (o := 5) (v := .string h.ty) rfl) (And.intro ((unhide RAg).at (o := 0) (v := .int .i64 a.x) rfl) (And.intro ((unhide RAg).at (o := 1) (v := .int .i64 a.n) rfl) (And.intro ((unhide RAg).at (o := 2) (v := .string a.t) rfl) ((unhide RAg).at (o := 3) (v := .string a.y) rfl)))))))))); have Bg := hide (bTr (unhide Bf) hbq); have M4g := hide ((unhide M4f).keep hbq); have HG' := hide hg'; clear hg'; clear hbq))
  obtain rfl : g' = g := by
    have h := unhide HG
    have h' := unhide HG'
    cases g <;> cases g' <;> simp_all
  have he : (g' != g') = false := by simp
  have M4 := M4g
  replace B := Bg
  clear Y Ye Yf Yg RHe RAe RHf RAf RHg RAg Be Bf Bg M4e M4f M4g HG HG' qi qth qta RH RA
  go_wp2_with fail
  refine (unhide QT _ ((unhide HS).keep (unhide B))).mono ?_
  rintro r w6 ⟨⟨h6, rfl, m6⟩, hb6⟩
  have M6 := hide (m6.lo (Nat.zero_le _))
  replace M4 := hide ((unhide M4).keep hb6)
  replace B := hide (bTr (unhide B) hb6)
  clear hb6 m6
  go_wp2_with fail
  refine (unhide qe h4 h6 _ (unhide M4) (unhide M6)).mono ?_
  rintro r w7 ⟨rfl, hb7⟩
  replace B := hide (bTr (unhide B) hb7)
  clear hb7
  go_wp2_with fail
  go_ret
  exact ⟨rfl, unhide B⟩

set_option maxRecDepth 100000 in
theorem lifted (os : Os) (started : os.Started) (H : Type) (enc : TypeId × Value → H) :
    ReturnsInHanded {} Tryz.checked os 4 .any (Rows.fnExactHeadMatchesSpec.pre6 enc Tryz.prog Tryz.f4 Rows.fnExactHeadMatchesRow.domain false) (Rows.fnExactHeadMatchesSpec.post enc Tryz.prog Tryz.f4 false true false false) := by
  refine returnsInHanded_of_change (C := Tryz.checked) own started (by kernel_rfl) Tryz.func4
    (ChangeSpec.witness6 (enc := enc) (C := Tryz.checked) false ⟨#[], #[.slice none 0 0, .agg #[.int .i64 0, .int .i64 0, .int .i64 0, .string ByteArray.empty, .string ByteArray.empty, .string ByteArray.empty], .agg #[.int .i64 0, .int .i64 0, .string ByteArray.empty, .string ByteArray.empty]], []⟩ 8 (by kernel_rfl) (by kernel_rfl) (by kernel_rfl) (by kernel_rfl)) ?_
  intro W base args ds gs before hval0 hW hcnd _
  have hval : ∀ (j : Nat) t v, Tryz.f4.params[j]? = some t → args[j]? = some v → Value.okWide Tryz.prog W .any base t v := hval0
  have hW' := hW
  obtain ⟨p, q, hA0, hV, rfl, hfz, hnd⟩ := hW
  have hA : DataW.TrodAll enc Tryz.prog W 0 (fun _ => true) true Tryz.f4.params.toList args.toList ds p := hA0
  rw [Tryz.params4] at hA hval
  obtain ⟨v0, vs0, d0, ds0, p0, q0, hargs, rfl, rfl, h0, r0⟩ := trodAll_cons hA
  obtain ⟨v1, vs1, d1, ds1, p1, q1, rfl, rfl, rfl, h1, r1⟩ := trodAll_cons r0
  obtain ⟨v2, vs2, d2, ds2, p2, q2, rfl, rfl, rfl, h2, r2⟩ := trodAll_cons r1
  obtain ⟨rfl, rfl, rfl⟩ := trodAll_nil r2
  obtain rfl : args = #[v0, v1, v2] := by cases args; simp_all
  obtain ⟨rfl, rfl⟩ := trodVars_none hV
  have k0 := h0
  have lt0 : ∀ x ∈ p0, x.block < W.heap.size := by obtain ⟨m, hm⟩ := k0; exact DataW.trod_lt m _ _ _ hm
  obtain ⟨g0, l0, e0, s0, o0, m0⟩ := V.cames_Thing (hval 0 22 v0 rfl rfl) h0
  subst e0
  have k1 := h1
  have lt1 : ∀ x ∈ p1, x.block < W.heap.size := by obtain ⟨m, hm⟩ := k1; exact DataW.trod_lt m _ _ _ hm
  obtain ⟨c1, e1, o1⟩ := V.readv_head (hval 1 39 v1 rfl rfl) h1
  subst e1
  have k2 := h2
  have lt2 : ∀ x ∈ p2, x.block < W.heap.size := by obtain ⟨m, hm⟩ := k2; exact DataW.trod_lt m _ _ _ hm
  obtain ⟨c2, e2, o2⟩ := V.readv_atom (hval 2 24 v2 rfl rfl) h2
  subst e2
  clear hA0 hval0
  refine (walk g0 l0 c1 c2 W s0 o0 m0 o1 o2).mono fun e W' ⟨he, bel⟩ => ?_
  subst he
  exact ⟨_, rfl, _, _, _, [], _, [], hW', trodAll_mk1 (shut_bool Tryz.underlying4 _), (trodAll_cons_mk (Below.trod laidOut (by kernel_rfl) (of_decide_eq_true (by kernel_rfl)) k0 bel lt0) (trodAll_cons_mk (Below.trod laidOut (by kernel_rfl) (of_decide_eq_true (by kernel_rfl)) k1 bel lt1) (trodAll_cons_mk (Below.trod laidOut (by kernel_rfl) (of_decide_eq_true (by kernel_rfl)) k2 bel lt2) trodAll_mk0))), rfl, bel.frame _, fun h => by cases h⟩

theorem over : Rows.fnExactHeadMatchesRow.holds Tryz.pinned (OpenSpec.ofChange Rows.fnExactHeadMatchesSpec) :=
  OpenClaim.holds_of_wide 4 Tryz.f4 rfl rfl rfl rfl rfl rfl rfl ⟨rfl, rfl, rfl, rfl, rfl⟩ rfl rfl rfl rfl rfl (by kernel_rfl) Tryz.func4 (by kernel_rfl)
    (of_decide_eq_true (by kernel_rfl)) (by unfold Func.isWrapper; rw [if_neg (by decide +kernel)]; exact ⟨rfl, rfl⟩)
    (fun os started H enc _ => lifted os started H enc)
end Go.Proofs.YtpfekkhnjaopdaaGreat.fnExactHeadMatches
namespace Go.Proofs.YtpfekkhnjaopdaaGreat
theorem fnExactHeadMatches_holds : Rows.FnExactHeadMatchesSaid := fnExactHeadMatches.over
end Go.Proofs.YtpfekkhnjaopdaaGreat
