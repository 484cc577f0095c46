/- LawReadTuple, one behind the other. -/
import Derived.Test.YticidjceljjfnaaGreatDoorRows
import Derived.Test.YticidjceljjfnaaGreatDoorCards
import Derived.Test.YticidjceljjfnaaGreatDoorTie
import Derived.Test.YticidjceljjfnaaGreatDoorJ13
import Derived.Test.YticidjceljjfnaaGreatDoorJ42
import Derived.Test.YticidjceljjfnaaGreatDoorJ45
import Derived.Test.YticidjceljjfnaaGreatDoorTLw
import Derived.Test.YticidjceljjfnaaGreatDoorJ46
import Derived.WalkKit
import Derived.ProofKit
import Derived.OpenShut
import Derived.ShutString
import Derived.ChangeOld
import Derived.Below
import Derived.Lib.SmallJoins
import Derived.LaidMore
import Derived.ChangeVars
import Derived.SevenTiedAt
import Derived.Stop.Joined
import Derived.ChangeMaps5
/- The row and the card of laws.FnExactReadTuple: its walk, then the row's step. -/
namespace Go.Proofs.YticidjceljjfnaaGreatDoor.V.fnExactReadTuple
open Go.ChangeShapes Go.WideShapes Go.ChangeAt Go.RowKit Go.Joins
open Go.ChangeMaps (open_string shut_string)
set_option linter.unusedVariables false
set_option maxRecDepth 20000

theorem vis_len {v : ValT} (h : GoodVal v) : v.items.length ≤ 50 ∧ v.names.length ≤ 50 := by
  rcases h with ⟨_, _, h3, h4⟩ | ⟨_, _, h3, _, _, h6⟩ | ⟨_, _, h3, _, h5, _⟩
  · rw [h3, h4]; exact ⟨by simp, by simp⟩
  · rw [h6]; exact ⟨h3, by simp⟩
  · exact ⟨h3, by omega⟩
theorem tis_len {l : List UInt8} {t : TupT} {ok : Bool} (h : TIs l t ok) : t.g.items.length ≤ 50 ∧ t.g.names.length ≤ 50 := by
  cases ok with
  | true =>
    obtain ⟨g, _, _⟩ := h.yes rfl
    rcases g.p7 with ⟨_, h⟩ | ⟨_, h⟩
    · rw [h.2.2.1, h.2.2.2]; exact ⟨by simp, by simp⟩
    · exact vis_len h.2
  | false => rw [h.zero rfl]; exact ⟨by simp, by simp⟩
theorem own_keepB {B : Nat} {w w' : World} {base n e size : Nat} {v : Value} {xs : List Value} (h : w.ownsRow base e size v n xs) (hb : Below B w w') (hlt : ∀ g, v.ownBlock = some g → g < B) : w'.ownsRow base e size v n xs := by
  refine ⟨h.1, ?_⟩
  rcases h.2 with h2 | ⟨g, cap, cur, hv, h3, h4, h5⟩
  · exact .inl h2
  · exact .inr ⟨g, cap, cur, hv, h3, by rw [hb.block g (hlt g (by rw [hv]; rfl))]; exact h4, h5⟩
theorem RowIs.keepB {B : Nat} {w w' : World} {b : Nat} {C : Array Value} {T : TypeId} (h : RowIs w b C T) (hb : Below B w w') (hlt : b < B) : RowIs w' b C T := by
  unfold V.RowIs at *; rw [hb.block b hlt]; exact h

set_option maxHeartbeats 8000000 in
theorem walk (s : ByteArray) (w : World) (hs : s.size ≤ maxLen) (hE : Env w) :
    Calls Tryz.prog 4 #[.string s] w fun e w' => e = .returned (.bool true) ∧ Below w.heap.size w w' := by
  unfold maxLen at hs
  by_cases hz : s.size ≤ 1048576
  · have q1 := hide (fun w => sReadTuple_any s w (by omega))
    have q2 := hide (fun w h => iReadTuple_any s w hz h)
    have HE := hide hE
    clear hE
    go_enter Tryz.func4, Tryz.ntmps4
    go_wp2_with fail
    refine (unhide q1 _).mono ?_
    rintro e w1 ⟨⟨v, v1, v2, ok, rfl, ow1, hvi⟩, hb1⟩
    obtain ⟨a1, c1, e1⟩ := own_sl ow1.i
    subst e1
    obtain ⟨a2, c2, e2⟩ := own_sl ow1.n
    subst e2
    have l50 := tis_len (unhide hvi)
    obtain ⟨li, ln⟩ := l50
    have ba1 := bAl (Below.refl w1.heap.size w1) (.cells #[.string v.ty, .string v.id, .string v.rel, .string v.sty, .string v.sid, .string v.srel, .string v.cav, .int .i64 v.g.k, .int .i64 v.g.a.x, .int .i64 v.g.a.n, .string v.g.a.t, .string v.g.a.y, .slice a1 v.g.items.length c1, .slice a2 v.g.names.length c2] 37)
    have R0 := hide (RowIs.new w1 #[.string v.ty, .string v.id, .string v.rel, .string v.sty, .string v.sid, .string v.srel, .string v.cav, .int .i64 v.g.k, .int .i64 v.g.a.x, .int .i64 v.g.a.n, .string v.g.a.t, .string v.g.a.y, .slice a1 v.g.items.length c1, .slice a2 v.g.names.length c2] 37)
    have OW := hide (ow1.keep ba1)
    have lt0 := hide (show (∀ g, (Value.slice a1 v.g.items.length c1).ownBlock = some g → g < w1.heap.size) ∧ (∀ g, (Value.slice a2 v.g.names.length c2).ownBlock = some g → g < w1.heap.size) from ⟨fun g e => (ow1.i.lt g e).2, fun g e => (ow1.n.lt g e).2⟩)
    have B1 := hide (bTr hb1 ba1)
    obtain ⟨W1, hW1⟩ : ∃ W1, W1 = w1.alloc (.cells #[.string v.ty, .string v.id, .string v.rel, .string v.sty, .string v.sid, .string v.srel, .string v.cav, .int .i64 v.g.k, .int .i64 v.g.a.x, .int .i64 v.g.a.n, .string v.g.a.t, .string v.g.a.y, .slice a1 v.g.items.length c1, .slice a2 v.g.names.length c2] 37) := ⟨_, rfl⟩
    have sW1 : w1.heap.size + 1 = W1.heap.size := by rw [hW1]; simp
    have HW1 := hide hW1.symm
    rw [← hW1] at R0 OW B1
    clear hW1 ow1 hb1 ba1 q1
    unfold TRet
    go_wp2_with fail
    rw [unhide HW1]
    refine (unhide q2 _ ((unhide HE).keep (unhide B1))).mono ?_
    rintro e w2 ⟨⟨v', u1, u2, ok', rfl, ow2, hvi2⟩, hb2⟩
    obtain ⟨e3, e4⟩ := (unhide hvi).uniq (unhide hvi2)
    subst e3 e4
    obtain ⟨b1, d1, e1⟩ := own_sl ow2.i
    subst e1
    obtain ⟨b2, d2, e2⟩ := own_sl ow2.n
    subst e2
    have ba2 := bAl (Below.refl w2.heap.size w2) (.cells #[.string v.ty, .string v.id, .string v.rel, .string v.sty, .string v.sid, .string v.srel, .string v.cav, .int .i64 v.g.k, .int .i64 v.g.a.x, .int .i64 v.g.a.n, .string v.g.a.t, .string v.g.a.y, .slice b1 v.g.items.length d1, .slice b2 v.g.names.length d2] 37)
    have G0 := hide (RowIs.new w2 #[.string v.ty, .string v.id, .string v.rel, .string v.sty, .string v.sid, .string v.srel, .string v.cav, .int .i64 v.g.k, .int .i64 v.g.a.x, .int .i64 v.g.a.n, .string v.g.a.t, .string v.g.a.y, .slice b1 v.g.items.length d1, .slice b2 v.g.names.length d2] 37)
    have GW := hide (ow2.keep ba2)
    have ltg := hide (show (∀ g, (Value.slice b1 v.g.items.length d1).ownBlock = some g → g < w2.heap.size) ∧ (∀ g, (Value.slice b2 v.g.names.length d2).ownBlock = some g → g < w2.heap.size) from ⟨fun g e => (ow2.i.lt g e).2, fun g e => (ow2.n.lt g e).2⟩)
    have B2 := hide (bTr (bTr (unhide B1) hb2) ba2)
    replace R0 := hide (((unhide R0).keep hb2).keep ba2)
    replace OW := hide (((unhide OW).keep hb2).keep ba2)
    have s2 : W1.heap.size ≤ w2.heap.size := hb2.size
    obtain ⟨W2, hW2⟩ : ∃ W2, W2 = w2.alloc (.cells #[.string v.ty, .string v.id, .string v.rel, .string v.sty, .string v.sid, .string v.srel, .string v.cav, .int .i64 v.g.k, .int .i64 v.g.a.x, .int .i64 v.g.a.n, .string v.g.a.t, .string v.g.a.y, .slice b1 v.g.items.length d1, .slice b2 v.g.names.length d2] 37) := ⟨_, rfl⟩
    have sW2 : w2.heap.size + 1 = W2.heap.size := by rw [hW2]; simp
    have HW2 := hide hW2.symm
    have nab : ¬ w2.heap.size = w1.heap.size := by omega
    rw [← hW2] at R0 OW B2 G0 GW
    have HV := hvi
    clear hW2 ow2 hb2 ba2 hvi2 HW1
    unfold TRet
    iterate 20 (try (first | go_values | go_skip | go_guarded | go_step | go_upon | go_simp))
    rw [unhide HW2]
    clear HW2
    have m0 := ((unhide R0)).at (o := 0) (v := .string v.ty) rfl
    have m1 := ((unhide R0)).at (o := 1) (v := .string v.id) rfl
    have m2 := ((unhide R0)).at (o := 2) (v := .string v.rel) rfl
    have m3 := ((unhide R0)).at (o := 3) (v := .string v.sty) rfl
    have m4 := ((unhide R0)).at (o := 4) (v := .string v.sid) rfl
    have m5 := ((unhide R0)).at (o := 5) (v := .string v.srel) rfl
    have m6 := ((unhide R0)).at (o := 6) (v := .string v.cav) rfl
    have m7 := ((unhide R0)).at (o := 7) (v := .int .i64 v.g.k) rfl
    have m8 := ((unhide R0)).at (o := 8) (v := .int .i64 v.g.a.x) rfl
    have m9 := ((unhide R0)).at (o := 9) (v := .int .i64 v.g.a.n) rfl
    have m10 := ((unhide R0)).at (o := 10) (v := .string v.g.a.t) rfl
    have m11 := ((unhide R0)).at (o := 11) (v := .string v.g.a.y) rfl
    have m12 := ((unhide R0)).at (o := 12) (v := .slice a1 v.g.items.length c1) rfl
    have m13 := ((unhide R0)).at (o := 13) (v := .slice a2 v.g.names.length c2) rfl
    have n0 := ((unhide G0)).at (o := 0) (v := .string v.ty) rfl
    have n1 := ((unhide G0)).at (o := 1) (v := .string v.id) rfl
    have n2 := ((unhide G0)).at (o := 2) (v := .string v.rel) rfl
    have n3 := ((unhide G0)).at (o := 3) (v := .string v.sty) rfl
    have n4 := ((unhide G0)).at (o := 4) (v := .string v.sid) rfl
    have n5 := ((unhide G0)).at (o := 5) (v := .string v.srel) rfl
    have n6 := ((unhide G0)).at (o := 6) (v := .string v.cav) rfl
    have n7 := ((unhide G0)).at (o := 7) (v := .int .i64 v.g.k) rfl
    have n8 := ((unhide G0)).at (o := 8) (v := .int .i64 v.g.a.x) rfl
    have n9 := ((unhide G0)).at (o := 9) (v := .int .i64 v.g.a.n) rfl
    have n10 := ((unhide G0)).at (o := 10) (v := .string v.g.a.t) rfl
    have n11 := ((unhide G0)).at (o := 11) (v := .string v.g.a.y) rfl
    have n12 := ((unhide G0)).at (o := 12) (v := .slice b1 v.g.items.length d1) rfl
    have n13 := ((unhide G0)).at (o := 13) (v := .slice b2 v.g.names.length d2) rfl
    have ml1 : v.g.items.length ≤ maxLen := by unfold maxLen; omega
    have ml2 : v.g.names.length ≤ maxLen := by unfold maxLen; omega
    have qe := hide (eqTuple_same v b1 b2 a1 a2 v.g.items.length d1 v.g.names.length d2 v.g.items.length c1 v.g.names.length c2 W2 ml1 ml2 (sla_own (unhide GW).i) (sls_own (unhide GW).n) (sla_own (unhide OW).i) (sls_own (unhide OW).n))
    have ML1 := hide ml1
    have ML2 := hide ml2
    clear ml1 ml2
    go_wp2_with fail
    refine (unhide qe).mono ?_
    rintro e w3 ⟨rfl, hb3⟩
    replace R0 := hide ((unhide R0).keep hb3)
    replace G0 := hide ((unhide G0).keep hb3)
    replace OW := hide ((unhide OW).keep hb3)
    replace GW := hide ((unhide GW).keep hb3)
    have B3 := hide (bTr (unhide B2) hb3)
    have s3 : W2.heap.size ≤ w3.heap.size := hb3.size
    clear hb3 qe B2 m0 n0 m1 n1 m2 n2 m3 n3 m4 n4 m5 n5 m6 n6 m7 n7 m8 n8 m9 n9 m10 n10 m11 n11 m12 n12 m13 n13
    have qm := hide (markTuple_own v _ _ W1.heap.size w3 li ln (by omega) (unhide GW))
    have n0 := ((unhide G0)).at (o := 0) (v := .string v.ty) rfl
    have n1 := ((unhide G0)).at (o := 1) (v := .string v.id) rfl
    have n2 := ((unhide G0)).at (o := 2) (v := .string v.rel) rfl
    have n3 := ((unhide G0)).at (o := 3) (v := .string v.sty) rfl
    have n4 := ((unhide G0)).at (o := 4) (v := .string v.sid) rfl
    have n5 := ((unhide G0)).at (o := 5) (v := .string v.srel) rfl
    have n6 := ((unhide G0)).at (o := 6) (v := .string v.cav) rfl
    have n7 := ((unhide G0)).at (o := 7) (v := .int .i64 v.g.k) rfl
    have n8 := ((unhide G0)).at (o := 8) (v := .int .i64 v.g.a.x) rfl
    have n9 := ((unhide G0)).at (o := 9) (v := .int .i64 v.g.a.n) rfl
    have n10 := ((unhide G0)).at (o := 10) (v := .string v.g.a.t) rfl
    have n11 := ((unhide G0)).at (o := 11) (v := .string v.g.a.y) rfl
    have n12 := ((unhide G0)).at (o := 12) (v := .slice b1 v.g.items.length d1) rfl
    have n13 := ((unhide G0)).at (o := 13) (v := .slice b2 v.g.names.length d2) rfl
    unfold TRet at qm
    have ko : (ok != ok) = false := by cases ok <;> rfl
    have ko2 : (ok == ok) = true := by cases ok <;> rfl
    go_wp2_with fail
    refine (unhide qm).mono ?_
    rintro e w4 ⟨rfl, hm4, hb4, hr4⟩
    have M4 := hide hm4
    have G4 := hide (hr4 _ _ _ (unhide G0) (fun g e => by have := (unhide ltg).1 g e; omega) (fun g e => by have := (unhide ltg).2 g e; omega))
    have R4 := hide (RowIs.keepB (unhide R0) hb4 (by omega))
    have OI := hide (own_keepB (unhide OW).i hb4 (fun g e => by have := (unhide lt0).1 g e; omega))
    have ON := hide (own_keepB (unhide OW).n hb4 (fun g e => by have := (unhide lt0).2 g e; omega))
    have B4 := hide (show Below w.heap.size w w4 from (unhide B3).trans (hb4.mono (by have := (unhide B1).size; omega)))
    have s4 : w3.heap.size ≤ w4.heap.size := hb4.size
    clear hm4 hb4 hr4 qm G0 R0 OW B3 n0 n1 n2 n3 n4 n5 n6 n7 n8 n9 n10 n11 n12 n13
    have qh := hide (heldTuple_own v _ _ w4 li ln (unhide M4) ⟨_, _, rfl⟩ ⟨_, _, rfl⟩)
    have n0 := ((unhide G4)).at (o := 0) (v := .string v.ty) rfl
    have n1 := ((unhide G4)).at (o := 1) (v := .string v.id) rfl
    have n2 := ((unhide G4)).at (o := 2) (v := .string v.rel) rfl
    have n3 := ((unhide G4)).at (o := 3) (v := .string v.sty) rfl
    have n4 := ((unhide G4)).at (o := 4) (v := .string v.sid) rfl
    have n5 := ((unhide G4)).at (o := 5) (v := .string v.srel) rfl
    have n6 := ((unhide G4)).at (o := 6) (v := .string v.cav) rfl
    have n7 := ((unhide G4)).at (o := 7) (v := .int .i64 v.g.k) rfl
    have n8 := ((unhide G4)).at (o := 8) (v := .int .i64 v.g.a.x) rfl
    have n9 := ((unhide G4)).at (o := 9) (v := .int .i64 v.g.a.n) rfl
    have n10 := ((unhide G4)).at (o := 10) (v := .string v.g.a.t) rfl
    have n11 := ((unhide G4)).at (o := 11) (v := .string v.g.a.y) rfl
    have n12 := ((unhide G4)).at (o := 12) (v := .slice b1 v.g.items.length d1) rfl
    have n13 := ((unhide G4)).at (o := 13) (v := .slice b2 v.g.names.length d2) rfl
    unfold TRet at qh
    have z0 : decide (((1 + v.g.items.length * 4 + v.g.names.length : Nat) : Int) < 0) = false := by simp; omega
    obtain ⟨Q, hQ⟩ : ∃ Q : Nat, 1 + v.g.items.length * 4 + v.g.names.length = Q := ⟨_, rfl⟩
    rw [hQ] at qh z0 ⊢
    have z1 : ¬ ((Q : Nat) : Int) < 0 := by omega
    go_wp2_with fail
    refine (unhide qh).mono ?_
    rintro e w5 ⟨rfl, hb5⟩
    replace M4 := hide ((unhide M4).keep hb5)
    replace G4 := hide ((unhide G4).keep hb5)
    replace R4 := hide ((unhide R4).keep hb5)
    replace OI := hide (own_keepT (unhide OI) hb5)
    replace ON := hide (own_keepT (unhide ON) hb5)
    have B5 := hide (bTr (unhide B4) hb5)
    have s5 : w4.heap.size ≤ w5.heap.size := hb5.size
    clear hb5 qh B4 n0 n1 n2 n3 n4 n5 n6 n7 n8 n9 n10 n11 n12 n13
    go_wp2_with fail
    refine (unhide q2 _ ((unhide HE).keep (unhide B5))).mono ?_
    rintro e w6 ⟨⟨v', u1, u2, ok', rfl, ow6, hvi6⟩, hb6⟩
    obtain ⟨e3, e4⟩ := (unhide HV).uniq (unhide hvi6)
    subst e3 e4
    obtain ⟨p1, r1, e1⟩ := own_sl ow6.i
    subst e1
    obtain ⟨p2, r2, e2⟩ := own_sl ow6.n
    subst e2
    have ba6 := bAl (Below.refl w6.heap.size w6) (.cells #[.string v.ty, .string v.id, .string v.rel, .string v.sty, .string v.sid, .string v.srel, .string v.cav, .int .i64 v.g.k, .int .i64 v.g.a.x, .int .i64 v.g.a.n, .string v.g.a.t, .string v.g.a.y, .slice p1 v.g.items.length r1, .slice p2 v.g.names.length r2] 37)
    have H0 := hide (RowIs.new w6 #[.string v.ty, .string v.id, .string v.rel, .string v.sty, .string v.sid, .string v.srel, .string v.cav, .int .i64 v.g.k, .int .i64 v.g.a.x, .int .i64 v.g.a.n, .string v.g.a.t, .string v.g.a.y, .slice p1 v.g.items.length r1, .slice p2 v.g.names.length r2] 37)
    have HW := hide (ow6.keep ba6)
    replace M4 := hide (((unhide M4).keep hb6).keep ba6)
    replace G4 := hide (((unhide G4).keep hb6).keep ba6)
    replace R4 := hide (((unhide R4).keep hb6).keep ba6)
    replace OI := hide (own_keepT (own_keepT (unhide OI) hb6) ba6)
    replace ON := hide (own_keepT (own_keepT (unhide ON) hb6) ba6)
    have B6 := hide (bTr (bTr (unhide B5) hb6) ba6)
    obtain ⟨W6, hW6⟩ : ∃ W6, W6 = w6.alloc (.cells #[.string v.ty, .string v.id, .string v.rel, .string v.sty, .string v.sid, .string v.srel, .string v.cav, .int .i64 v.g.k, .int .i64 v.g.a.x, .int .i64 v.g.a.n, .string v.g.a.t, .string v.g.a.y, .slice p1 v.g.items.length r1, .slice p2 v.g.names.length r2] 37) := ⟨_, rfl⟩
    have HW6 := hide hW6.symm
    rw [← hW6] at H0 HW M4 G4 R4 OI ON B6
    clear hW6 ow6 hb6 ba6 hvi6 B5
    unfold TRet
    iterate 20 (try (first | go_values | go_skip | go_guarded | go_step | go_upon | go_simp))
    rw [unhide HW6]
    clear HW6
    have m0 := ((unhide R4)).at (o := 0) (v := .string v.ty) rfl
    have m1 := ((unhide R4)).at (o := 1) (v := .string v.id) rfl
    have m2 := ((unhide R4)).at (o := 2) (v := .string v.rel) rfl
    have m3 := ((unhide R4)).at (o := 3) (v := .string v.sty) rfl
    have m4 := ((unhide R4)).at (o := 4) (v := .string v.sid) rfl
    have m5 := ((unhide R4)).at (o := 5) (v := .string v.srel) rfl
    have m6 := ((unhide R4)).at (o := 6) (v := .string v.cav) rfl
    have m7 := ((unhide R4)).at (o := 7) (v := .int .i64 v.g.k) rfl
    have m8 := ((unhide R4)).at (o := 8) (v := .int .i64 v.g.a.x) rfl
    have m9 := ((unhide R4)).at (o := 9) (v := .int .i64 v.g.a.n) rfl
    have m10 := ((unhide R4)).at (o := 10) (v := .string v.g.a.t) rfl
    have m11 := ((unhide R4)).at (o := 11) (v := .string v.g.a.y) rfl
    have m12 := ((unhide R4)).at (o := 12) (v := .slice a1 v.g.items.length c1) rfl
    have m13 := ((unhide R4)).at (o := 13) (v := .slice a2 v.g.names.length c2) rfl
    have n0 := ((unhide H0)).at (o := 0) (v := .string v.ty) rfl
    have n1 := ((unhide H0)).at (o := 1) (v := .string v.id) rfl
    have n2 := ((unhide H0)).at (o := 2) (v := .string v.rel) rfl
    have n3 := ((unhide H0)).at (o := 3) (v := .string v.sty) rfl
    have n4 := ((unhide H0)).at (o := 4) (v := .string v.sid) rfl
    have n5 := ((unhide H0)).at (o := 5) (v := .string v.srel) rfl
    have n6 := ((unhide H0)).at (o := 6) (v := .string v.cav) rfl
    have n7 := ((unhide H0)).at (o := 7) (v := .int .i64 v.g.k) rfl
    have n8 := ((unhide H0)).at (o := 8) (v := .int .i64 v.g.a.x) rfl
    have n9 := ((unhide H0)).at (o := 9) (v := .int .i64 v.g.a.n) rfl
    have n10 := ((unhide H0)).at (o := 10) (v := .string v.g.a.t) rfl
    have n11 := ((unhide H0)).at (o := 11) (v := .string v.g.a.y) rfl
    have n12 := ((unhide H0)).at (o := 12) (v := .slice p1 v.g.items.length r1) rfl
    have n13 := ((unhide H0)).at (o := 13) (v := .slice p2 v.g.names.length r2) rfl
    have qe := hide (eqTuple_same v p1 p2 a1 a2 v.g.items.length r1 v.g.names.length r2 v.g.items.length c1 v.g.names.length c2 W6 (unhide ML1) (unhide ML2) (sla_own (unhide HW).i) (sls_own (unhide HW).n) (sla_own (unhide OI)) (sls_own (unhide ON)))
    go_wp2_with fail
    refine (unhide qe).mono ?_
    rintro e w7 ⟨rfl, hb7⟩
    replace M4 := hide ((unhide M4).keep hb7)
    replace G4 := hide ((unhide G4).keep hb7)
    have B7 := hide (bTr (unhide B6) hb7)
    clear hb7 qe B6 H0 HW R4 OI ON m0 n0 m1 n1 m2 n2 m3 n3 m4 n4 m5 n5 m6 n6 m7 n7 m8 n8 m9 n9 m10 n10 m11 n11 m12 n12 m13 n13
    have qh := hide (heldTuple_own v _ _ w7 li ln (unhide M4) ⟨_, _, rfl⟩ ⟨_, _, rfl⟩)
    unfold TRet at qh
    rw [hQ] at qh
    have n0 := ((unhide G4)).at (o := 0) (v := .string v.ty) rfl
    have n1 := ((unhide G4)).at (o := 1) (v := .string v.id) rfl
    have n2 := ((unhide G4)).at (o := 2) (v := .string v.rel) rfl
    have n3 := ((unhide G4)).at (o := 3) (v := .string v.sty) rfl
    have n4 := ((unhide G4)).at (o := 4) (v := .string v.sid) rfl
    have n5 := ((unhide G4)).at (o := 5) (v := .string v.srel) rfl
    have n6 := ((unhide G4)).at (o := 6) (v := .string v.cav) rfl
    have n7 := ((unhide G4)).at (o := 7) (v := .int .i64 v.g.k) rfl
    have n8 := ((unhide G4)).at (o := 8) (v := .int .i64 v.g.a.x) rfl
    have n9 := ((unhide G4)).at (o := 9) (v := .int .i64 v.g.a.n) rfl
    have n10 := ((unhide G4)).at (o := 10) (v := .string v.g.a.t) rfl
    have n11 := ((unhide G4)).at (o := 11) (v := .string v.g.a.y) rfl
    have n12 := ((unhide G4)).at (o := 12) (v := .slice b1 v.g.items.length d1) rfl
    have n13 := ((unhide G4)).at (o := 13) (v := .slice b2 v.g.names.length d2) rfl
    go_wp2_with fail
    refine (unhide qh).mono ?_
    rintro e w8 ⟨rfl, hb8⟩
    have B8 := hide (bTr (unhide B7) hb8)
    clear hb8 qh B7 n0 n1 n2 n3 n4 n5 n6 n7 n8 n9 n10 n11 n12 n13
    go_wp2_with fail
    go_ret
    exact ⟨rfl, unhide B8⟩
  · go_enter Tryz.func4, Tryz.ntmps4
    go_wp2_with fail
    go_ret
    exact ⟨rfl, Below.refl _ _⟩
set_option maxRecDepth 100000 in
theorem lifted (os : Os) (started : os.Started) (H : Type) (enc : TypeId × Value → H) :
    ReturnsInHanded {} Tryz.checked os 4 .any (fun w args => (Rows.fnExactReadTupleSpec.pre enc Tryz.prog Tryz.f4 [] false w args ∧ laidMetH Tryz.prog laid7 w) ∧ sizedMet enc Tryz.prog Tryz.f4 (OpenSpec.ofChange Rows.fnExactReadTupleSpec) false w args)
      (Rows.fnExactReadTupleSpec.post enc Tryz.prog Tryz.f4 false true false false) := by
  refine handed_shaped (C := Tryz.checked) (X := fun w _ => laidMetH Tryz.prog laid7 w) (fun _ _ _ hh h => h.of_heap hh) own started (by kernel_rfl) Tryz.func4
    (ChangeSpec.witness_shaped (enc := enc) (C := Tryz.checked) (os := os) (X := fun w _ => laidMetH Tryz.prog laid7 w) false (World.laidAll Tryz.prog os laid7) #[.string ByteArray.empty] 8 (World.laidAll_os _ _ _) (World.shaped_of_ZipB (by kernel_rfl) (by kernel_rfl)) (by kernel_rfl) (by kernel_rfl) (by kernel_rfl) (all_met7 os _)) ?_
  intro W base args ds gs before hval0 hW hSh hL
  have hval : ∀ (j : Nat) t v, Tryz.f4.params[j]? = some t → args[j]? = some v → Value.okWide Tryz.prog W .any base t v := hval0
  have hW' := hW
  obtain ⟨p, q, hA0, hV, rfl, hfz, hnd⟩ := hW
  have hA : DataW.TrodAll enc Tryz.prog W 0 (fun _ => true) true Tryz.f4.params.toList args.toList ds p := hA0
  rw [Tryz.params4] at hA hval
  obtain ⟨v0, vs0, d0, ds0, p0, q0, hargs, rfl, rfl, h0, r0⟩ := trodAll_cons hA
  obtain ⟨rfl, rfl, rfl⟩ := trodAll_nil r0
  obtain rfl : args = #[v0] := by cases args; simp_all
  obtain ⟨rfl, rfl⟩ := trodVars_none hV
  obtain ⟨a0, rfl, rfl, rfl, w0⟩ := open_string Tryz.underlying9 (hval 0 9 v0 rfl rfl) h0
  clear hA0 hval0
  refine (walk a0 W w0 (env_of_laid7 hL hSh)).mono fun e W' ⟨he, bel⟩ => ?_
  subst he
  exact ⟨_, rfl, _, _, _, [], _, [], hW', trodAll_mk1 (shut_bool Tryz.underlying4 _), (trodAll_cons_mk (shut_string Tryz.underlying9 w0) trodAll_mk0), rfl, bel.frame _, fun h => by cases h⟩

theorem row : Rows.FnExactReadTupleSaid :=
  OpenClaim.holds_of_wide 4 Tryz.f4 rfl rfl rfl rfl rfl rfl rfl ⟨rfl, rfl, rfl, rfl, rfl⟩ rfl rfl rfl rfl rfl (by kernel_rfl) Tryz.func4 (by kernel_rfl)
    (of_decide_eq_true (by kernel_rfl)) (by unfold Func.isWrapper; first | (rw [if_pos (by decide +kernel)]; kernel_rfl) | (rw [if_neg (by decide +kernel)]; exact ⟨rfl, rfl⟩))
    (fun os started H enc _ => lifted os started H enc)
theorem card : Rows.FnExactReadTupleCardSaid :=
  Claim7.holds_tied_plain_at .later [] [.data, .data, .data, .data, .sentinel, .sentinel, .pinned] true (true, "47acbf8f58d73fbe778dfe6bdcc6bc1e45016ea504da66baf34f644ac91c1d2e") true
    row (fun _ h => by cases h) (by kernel_rfl) (fun _ h => by cases h) fnExactReadTuple_row_tie rfl ⟨rfl, rfl⟩ (by kernel_rfl) rfl
    (fun f fn hf hfn => by
      obtain rfl : f = 4 := Option.some.inj ((show Tryz.prog.funcNamed "loop.example/g00036/laws.FnExactReadTuple" = some 4 by kernel_rfl).symm.trans hf) |>.symm
      obtain rfl : fn = Tryz.f4 := (Option.some.inj (Tryz.func4.symm.trans hfn)).symm
      exact ⟨by kernel_rfl, fun j t ht => by
        rw [Tryz.params4] at ht
        have hm : t ∈ [9] := by simpa using Array.mem_of_getElem? ht
        have hall : ([9].all fun u => !Tryz.prog.wantsStandIn u) = true := by kernel_rfl
        exact (show Tryz.prog.wantsStandIn t = false by simpa using List.all_eq_true.1 hall t hm)⟩)
    (by kernel_rfl)
end Go.Proofs.YticidjceljjfnaaGreatDoor.V.fnExactReadTuple
namespace Go.Proofs.YticidjceljjfnaaGreatDoor
theorem fnExactReadTuple_holds : Rows.FnExactReadTupleCardSaid := V.fnExactReadTuple.card
end Go.Proofs.YticidjceljjfnaaGreatDoor
