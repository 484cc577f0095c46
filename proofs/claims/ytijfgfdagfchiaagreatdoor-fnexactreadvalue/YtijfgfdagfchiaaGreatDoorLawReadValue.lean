/- ALk, LawReadValue, one behind the other. -/
import Derived.Test.YtijfgfdagfchiaaGreatDoorRows
import Derived.Test.YtijfgfdagfchiaaGreatDoorANum
import Derived.ProofKit
import Derived.LaidMore
import Derived.OpenShut
import Derived.ChangeVars
import Derived.Stop.Joined
import Derived.Stop.LaidErr
import Derived.Handed
import Derived.Lay
import Derived.Shelf.Vars
import Derived.Test.YtijfgfdagfchiaaGreatDoorCards
import Derived.Test.YtijfgfdagfchiaaGreatDoorTie
import Derived.Test.YtijfgfdagfchiaaGreatDoorBMb
import Derived.Test.YtijfgfdagfchiaaGreatDoorBMc
import Derived.Test.YtijfgfdagfchiaaGreatDoorWEq
import Derived.WalkKit
import Derived.ShutString
import Derived.ChangeOld
import Derived.Below
import Derived.Lib.SmallJoins
import Derived.SevenTiedAt
import Derived.ChangeMaps5
/- What the laws of this seat need of the laid tables and of the world's shape. -/
namespace Go.Proofs.YtijfgfdagfchiaaGreatDoor
open Go.ChangeShapes Go.WideShapes Go.ChangeAt Go.RowKit
set_option maxRecDepth 100000

theorem own : ownKnob Tryz.prog.godebug = none := by kernel_rfl
theorem laidOut : laidOutB Tryz.prog = true := by kernel_rfl
def laid7 : List (String × DataW Unit) := [("math/bits.deBruijn32tab", Rows.laid_math_bits_deBruijn32tab), ("math/bits.deBruijn64tab", Rows.laid_math_bits_deBruijn64tab), ("internal/strconv.uint64pow10", Rows.laid_internal_strconv_uint64pow10), ("unicode/utf8.acceptRanges", Rows.laid_unicode_utf8_acceptRanges), ("strconv.ErrRange", Rows.laid_strconv_ErrRange), ("strconv.ErrSyntax", Rows.laid_strconv_ErrSyntax), ("unicode/utf8.first", Rows.laid_unicode_utf8_first)]
/-- A world with the tables laid meets the condition. -/
theorem all_met7 (os : Os) (args : Array Value) : laidMetH Tryz.prog laid7 ((World.laidAll Tryz.prog os laid7).forCall (fun _ _ => 0) ⟨#[], args, []⟩).memory := by
  rw [MakeChecks.laidMetH_plain _ _ _ (by kernel_rfl)]; exact laidMet_laidAll _ (by kernel_rfl) (by kernel_rfl)
theorem pow_is : (Rows.laid_internal_strconv_uint64pow10 : DataW Unit) = Lib.tabData .u64 Lib.pow10Tab := by rfl
theorem tPow : (Tryz.prog.globals[5]?).map (·.type) = some 134 := by kernel_rfl
theorem star : "*" ++ "errors.errorString" = "*errors.errorString" := by decide
theorem row_es (u : TypeId) (h : Tryz.prog.typeName? 3 u = some "*errors.errorString") : u = 138 :=
  typeName_ptr_named (nm := "errors.errorString") (by rw [star]; kernel_rfl) (by kernel_rfl) (by decide) u (by rw [star]; exact h)
theorem env_of_laid7 {W : World} (h : laidMetH Tryz.prog laid7 W) (hs : W.ShapedOpen Tryz.prog) : Env W := by
  rw [MakeChecks.laidMetH_plain _ _ _ (by kernel_rfl)] at h
  refine ⟨?_, ?_, ?_, ?_⟩
  · obtain ⟨a, s, h1, _⟩ := laid_sentinel h.tail.tail.tail.tail gRan (ti := 71) (by kernel_rfl) Tryz.underlying71 (tp := 138) row_es Tryz.underlying138 Tryz.underlying140 rfl rfl Tryz.underlying9 (by kernel_rfl) (by kernel_rfl)
    exact ⟨_, _, h1⟩
  · obtain ⟨a, s, h1, _⟩ := laid_sentinel h.tail.tail.tail.tail.tail gSyn (ti := 71) (by kernel_rfl) Tryz.underlying71 (tp := 138) row_es Tryz.underlying138 Tryz.underlying140 rfl rfl Tryz.underlying9 (by kernel_rfl) (by kernel_rfl)
    exact ⟨_, _, h1⟩
  · exact cell_of_shapedOpen_int (zero := #[.int .i64 0]) (t := 3) hs (of_decide_eq_true (by kernel_rfl)) (by kernel_rfl) rfl (by kernel_rfl) (by kernel_rfl) Tryz.underlying3
  · have h2 := h.tail.tail
    rw [pow_is] at h2
    exact Lib.tabIs_of_head gPow tPow Tryz.underlying134 Tryz.underlying118 (by kernel_rfl) (by kernel_rfl) h2
section
variable {H : Type} {enc : TypeId × Value → H}
/-- The wrap with a fact of the world and the world's shape. -/
theorem handed_shaped {a : Assume} {C : Checked} {os : Os} {f : FuncId} {fn : Func} {s : ChangeSpec} {conds : List PathCond} {apart fresh handsOn again : Bool} {X : World → Array Value → Prop}
    (hX : ∀ (w w' : World) (args : Array Value), w.heap = w'.heap → X w args → X w' args)
    (own : ownKnob C.prog.godebug = none) (started : os.Started) (noInit : C.prog.inits.idxOf? f = none) (hfn : C.prog.funcs[f]? = some fn)
    (witness : ∃ (w : World) (tape : Tape) (i : Input), w.os = os ∧ (w.forCall tape i).Shaped C.prog ∧ i.vars = [] ∧ Input.okWide C.prog (w.forCall tape i) .any w.heap.size f i ∧
      ((s.pre enc C.prog fn conds apart (w.forCall tape i).memory i.args ∧ X (w.forCall tape i).memory i.args) ∧ sizedMet enc C.prog fn (OpenSpec.ofChange s) apart (w.forCall tape i).memory i.args) ∧ a.holds C.prog (lone (Frame.enter C.prog f i.args .normal) [] (w.forCall tape i)))
    (contract : ∀ (W : World) (base : Nat) (args : Array Value) (ds gs : List (DataW H)) (before : List MemPlace),
      (∀ (j : Nat) t v, fn.params[j]? = some t → args[j]? = some v → Value.okWide C.prog W .any base t v) →
      DataW.Whole enc C.prog fn.params.toList s.vars apart W args.toList ds gs before → W.ShapedOpen C.prog → X W args →
      Calls C.prog f args W fun e W' => ∃ v, e = .returned v ∧ s.post enc C.prog fn apart fresh handsOn again W args v W') :
    ReturnsInHanded a C os f .any (fun w args => (s.pre enc C.prog fn conds apart w args ∧ X w args) ∧ sizedMet enc C.prog fn (OpenSpec.ofChange s) apart w args) (s.post enc C.prog fn apart fresh handsOn again) := by
  refine returnsInHanded_of_calls own started noInit witness ?_
  intro w tape i _ hsh _ hok hpre _
  obtain ⟨_, _, _, fn', hfn', _, _, _, _, hval⟩ := hok
  obtain rfl : fn' = fn := Option.some.inj (hfn'.symm.trans hfn)
  obtain ⟨⟨⟨ds, gs, before, hw, _⟩, hx⟩, _⟩ := hpre
  refine (contract (w.forCall tape i) w.heap.size i.args ds gs before hval (DataW.Whole.of_heap (by rfl) hw) hsh (hX _ _ _ (by rfl) hx)).mono fun e W' ⟨v, he, hp⟩ => ?_
  subst he
  exact ChangeSpec.post_blind hp
end
end Go.Proofs.YtijfgfdagfchiaaGreatDoor
/- The row and the card of laws.FnExactReadValue: its walk, then the row's step. -/
namespace Go.Proofs.YtijfgfdagfchiaaGreatDoor.V.fnExactReadValue
open Go.ChangeShapes Go.WideShapes Go.ChangeAt Go.RowKit Go.Joins
open Go.ChangeMaps (open_string shut_string)
set_option linter.unusedVariables false
set_option maxRecDepth 20000

theorem vis_len {l : List UInt8} {v : ValT} {ok : Bool} (h : VIs l v ok) : v.items.length ≤ 50 ∧ v.names.length ≤ 50 := by
  cases ok with
  | true =>
    obtain ⟨g, _, _⟩ := h.yes rfl
    rcases g with ⟨_, _, h3, h4⟩ | ⟨_, _, h3, _, _, h6⟩ | ⟨_, _, h3, _, h5, _⟩
    · rw [h3, h4]; exact ⟨by simp, by simp⟩
    · rw [h6]; exact ⟨h3, by simp⟩
    · exact ⟨h3, by omega⟩
  | false => rw [h.zero rfl]; exact ⟨by simp, by simp⟩
theorem own_keepB {B : Nat} {w w' : World} {base n e size : Nat} {v : Value} {xs : List Value} (h : w.ownsRow base e size v n xs) (hb : Below B w w') (hlt : ∀ g, v.ownBlock = some g → g < B) : w'.ownsRow base e size v n xs := by
  refine ⟨h.1, ?_⟩
  rcases h.2 with h2 | ⟨g, cap, cur, hv, h3, h4, h5⟩
  · exact .inl h2
  · exact .inr ⟨g, cap, cur, hv, h3, by rw [hb.block g (hlt g (by rw [hv]; rfl))]; exact h4, h5⟩
theorem RowIs.keepB {B : Nat} {w w' : World} {b : Nat} {C : Array Value} {T : TypeId} (h : RowIs w b C T) (hb : Below B w w') (hlt : b < B) : RowIs w' b C T := by
  unfold V.RowIs at *; rw [hb.block b hlt]; exact h

set_option maxHeartbeats 8000000 in
theorem walk (s : ByteArray) (w : World) (hs : s.size ≤ maxLen) (hE : Env w) :
    Calls Tryz.prog 4 #[.string s] w fun e w' => e = .returned (.bool true) ∧ Below w.heap.size w w' := by
  unfold maxLen at hs
  by_cases hz : s.size ≤ 1048576
  · have q1 := hide (fun w => sReadValue_any s w)
    have q2 := hide (fun w h => iReadValue_any s w hz h)
    have HE := hide hE
    clear hE
    go_enter Tryz.func4, Tryz.ntmps4
    go_wp2_with fail
    refine (unhide q1 _).mono ?_
    rintro e w1 ⟨⟨v, v1, v2, ok, rfl, ow1, hvi⟩, hb1⟩
    obtain ⟨a1, c1, e1⟩ := own_sl ow1.i
    subst e1
    obtain ⟨a2, c2, e2⟩ := own_sl ow1.n
    subst e2
    have l50 := vis_len (unhide hvi)
    obtain ⟨li, ln⟩ := l50
    have ba1 := bAl (Below.refl w1.heap.size w1) (.cells #[.int .i64 v.k, .int .i64 v.a.x, .int .i64 v.a.n, .string v.a.t, .string v.a.y, .slice a1 v.items.length c1, .slice a2 v.names.length c2] 31)
    have R0 := hide (RowIs.new w1 #[.int .i64 v.k, .int .i64 v.a.x, .int .i64 v.a.n, .string v.a.t, .string v.a.y, .slice a1 v.items.length c1, .slice a2 v.names.length c2] 31)
    have OW := hide (ow1.keep ba1)
    have lt0 := hide (show (∀ g, (Value.slice a1 v.items.length c1).ownBlock = some g → g < w1.heap.size) ∧ (∀ g, (Value.slice a2 v.names.length c2).ownBlock = some g → g < w1.heap.size) from ⟨fun g e => (ow1.i.lt g e).2, fun g e => (ow1.n.lt g e).2⟩)
    have B1 := hide (bTr hb1 ba1)
    obtain ⟨W1, hW1⟩ : ∃ W1, W1 = w1.alloc (.cells #[.int .i64 v.k, .int .i64 v.a.x, .int .i64 v.a.n, .string v.a.t, .string v.a.y, .slice a1 v.items.length c1, .slice a2 v.names.length c2] 31) := ⟨_, rfl⟩
    have sW1 : w1.heap.size + 1 = W1.heap.size := by rw [hW1]; simp
    have HW1 := hide hW1.symm
    rw [← hW1] at R0 OW B1
    clear hW1 ow1 hb1 ba1 q1
    unfold VRet
    go_wp2_with fail
    rw [unhide HW1]
    refine (unhide q2 _ ((unhide HE).keep (unhide B1))).mono ?_
    rintro e w2 ⟨⟨v', u1, u2, ok', rfl, ow2, hvi2⟩, hb2⟩
    obtain ⟨e3, e4⟩ := (unhide hvi).uniq (unhide hvi2)
    subst e3 e4
    obtain ⟨b1, d1, e1⟩ := own_sl ow2.i
    subst e1
    obtain ⟨b2, d2, e2⟩ := own_sl ow2.n
    subst e2
    have ba2 := bAl (Below.refl w2.heap.size w2) (.cells #[.int .i64 v.k, .int .i64 v.a.x, .int .i64 v.a.n, .string v.a.t, .string v.a.y, .slice b1 v.items.length d1, .slice b2 v.names.length d2] 31)
    have G0 := hide (RowIs.new w2 #[.int .i64 v.k, .int .i64 v.a.x, .int .i64 v.a.n, .string v.a.t, .string v.a.y, .slice b1 v.items.length d1, .slice b2 v.names.length d2] 31)
    have GW := hide (ow2.keep ba2)
    have ltg := hide (show (∀ g, (Value.slice b1 v.items.length d1).ownBlock = some g → g < w2.heap.size) ∧ (∀ g, (Value.slice b2 v.names.length d2).ownBlock = some g → g < w2.heap.size) from ⟨fun g e => (ow2.i.lt g e).2, fun g e => (ow2.n.lt g e).2⟩)
    have B2 := hide (bTr (bTr (unhide B1) hb2) ba2)
    replace R0 := hide (((unhide R0).keep hb2).keep ba2)
    replace OW := hide (((unhide OW).keep hb2).keep ba2)
    have s2 : W1.heap.size ≤ w2.heap.size := hb2.size
    obtain ⟨W2, hW2⟩ : ∃ W2, W2 = w2.alloc (.cells #[.int .i64 v.k, .int .i64 v.a.x, .int .i64 v.a.n, .string v.a.t, .string v.a.y, .slice b1 v.items.length d1, .slice b2 v.names.length d2] 31) := ⟨_, rfl⟩
    have sW2 : w2.heap.size + 1 = W2.heap.size := by rw [hW2]; simp
    have HW2 := hide hW2.symm
    have nab : ¬ w2.heap.size = w1.heap.size := by omega
    rw [← hW2] at R0 OW B2 G0 GW
    have HV := hvi
    clear hW2 ow2 hb2 ba2 hvi2 HW1
    unfold VRet
    iterate 20 (try (first | go_values | go_skip | go_guarded | go_step | go_upon | go_simp))
    rw [unhide HW2]
    clear HW2
    have m0 := ((unhide R0)).at (o := 0) (v := .int .i64 v.k) rfl
    have m1 := ((unhide R0)).at (o := 1) (v := .int .i64 v.a.x) rfl
    have m2 := ((unhide R0)).at (o := 2) (v := .int .i64 v.a.n) rfl
    have m3 := ((unhide R0)).at (o := 3) (v := .string v.a.t) rfl
    have m4 := ((unhide R0)).at (o := 4) (v := .string v.a.y) rfl
    have m5 := ((unhide R0)).at (o := 5) (v := .slice a1 v.items.length c1) rfl
    have m6 := ((unhide R0)).at (o := 6) (v := .slice a2 v.names.length c2) rfl
    have n0 := ((unhide G0)).at (o := 0) (v := .int .i64 v.k) rfl
    have n1 := ((unhide G0)).at (o := 1) (v := .int .i64 v.a.x) rfl
    have n2 := ((unhide G0)).at (o := 2) (v := .int .i64 v.a.n) rfl
    have n3 := ((unhide G0)).at (o := 3) (v := .string v.a.t) rfl
    have n4 := ((unhide G0)).at (o := 4) (v := .string v.a.y) rfl
    have n5 := ((unhide G0)).at (o := 5) (v := .slice b1 v.items.length d1) rfl
    have n6 := ((unhide G0)).at (o := 6) (v := .slice b2 v.names.length d2) rfl
    have ml1 : v.items.length ≤ maxLen := by unfold maxLen; omega
    have ml2 : v.names.length ≤ maxLen := by unfold maxLen; omega
    have qe := hide (eqValue_same v b1 b2 a1 a2 v.items.length d1 v.names.length d2 v.items.length c1 v.names.length c2 W2 ml1 ml2 (sla_own (unhide GW).i) (sls_own (unhide GW).n) (sla_own (unhide OW).i) (sls_own (unhide OW).n))
    have ML1 := hide ml1
    have ML2 := hide ml2
    clear ml1 ml2
    go_wp2_with fail
    refine (unhide qe).mono ?_
    rintro e w3 ⟨rfl, hb3⟩
    replace R0 := hide ((unhide R0).keep hb3)
    replace G0 := hide ((unhide G0).keep hb3)
    replace OW := hide ((unhide OW).keep hb3)
    replace GW := hide ((unhide GW).keep hb3)
    have B3 := hide (bTr (unhide B2) hb3)
    have s3 : W2.heap.size ≤ w3.heap.size := hb3.size
    clear hb3 qe B2 m0 n0 m1 n1 m2 n2 m3 n3 m4 n4 m5 n5 m6 n6
    have qm := hide (markValue_own v _ _ W1.heap.size w3 li ln (by omega) (unhide GW))
    have n0 := ((unhide G0)).at (o := 0) (v := .int .i64 v.k) rfl
    have n1 := ((unhide G0)).at (o := 1) (v := .int .i64 v.a.x) rfl
    have n2 := ((unhide G0)).at (o := 2) (v := .int .i64 v.a.n) rfl
    have n3 := ((unhide G0)).at (o := 3) (v := .string v.a.t) rfl
    have n4 := ((unhide G0)).at (o := 4) (v := .string v.a.y) rfl
    have n5 := ((unhide G0)).at (o := 5) (v := .slice b1 v.items.length d1) rfl
    have n6 := ((unhide G0)).at (o := 6) (v := .slice b2 v.names.length d2) rfl
    unfold VRet at qm
    have ko : (ok != ok) = false := by cases ok <;> rfl
    have ko2 : (ok == ok) = true := by cases ok <;> rfl
    go_wp2_with fail
    refine (unhide qm).mono ?_
    rintro e w4 ⟨rfl, hm4, hb4, hr4⟩
    have M4 := hide hm4
    have G4 := hide (hr4 _ _ _ (unhide G0) (fun g e => by have := (unhide ltg).1 g e; omega) (fun g e => by have := (unhide ltg).2 g e; omega))
    have R4 := hide (RowIs.keepB (unhide R0) hb4 (by omega))
    have OI := hide (own_keepB (unhide OW).i hb4 (fun g e => by have := (unhide lt0).1 g e; omega))
    have ON := hide (own_keepB (unhide OW).n hb4 (fun g e => by have := (unhide lt0).2 g e; omega))
    have B4 := hide (show Below w.heap.size w w4 from (unhide B3).trans (hb4.mono (by have := (unhide B1).size; omega)))
    have s4 : w3.heap.size ≤ w4.heap.size := hb4.size
    clear hm4 hb4 hr4 qm G0 R0 OW B3 n0 n1 n2 n3 n4 n5 n6
    have qh := hide (heldValue_own v _ _ w4 li ln (unhide M4) ⟨_, _, rfl⟩ ⟨_, _, rfl⟩)
    have n0 := ((unhide G4)).at (o := 0) (v := .int .i64 v.k) rfl
    have n1 := ((unhide G4)).at (o := 1) (v := .int .i64 v.a.x) rfl
    have n2 := ((unhide G4)).at (o := 2) (v := .int .i64 v.a.n) rfl
    have n3 := ((unhide G4)).at (o := 3) (v := .string v.a.t) rfl
    have n4 := ((unhide G4)).at (o := 4) (v := .string v.a.y) rfl
    have n5 := ((unhide G4)).at (o := 5) (v := .slice b1 v.items.length d1) rfl
    have n6 := ((unhide G4)).at (o := 6) (v := .slice b2 v.names.length d2) rfl
    unfold VRet at qh
    have z0 : decide (((1 + v.items.length * 4 + v.names.length : Nat) : Int) < 0) = false := by simp; omega
    obtain ⟨Q, hQ⟩ : ∃ Q : Nat, 1 + v.items.length * 4 + v.names.length = Q := ⟨_, rfl⟩
    rw [hQ] at qh z0 ⊢
    have z1 : ¬ ((Q : Nat) : Int) < 0 := by omega
    go_wp2_with fail
    refine (unhide qh).mono ?_
    rintro e w5 ⟨rfl, hb5⟩
    replace M4 := hide ((unhide M4).keep hb5)
    replace G4 := hide ((unhide G4).keep hb5)
    replace R4 := hide ((unhide R4).keep hb5)
    replace OI := hide (own_keepT (unhide OI) hb5)
    replace ON := hide (own_keepT (unhide ON) hb5)
    have B5 := hide (bTr (unhide B4) hb5)
    have s5 : w4.heap.size ≤ w5.heap.size := hb5.size
    clear hb5 qh B4 n0 n1 n2 n3 n4 n5 n6
    go_wp2_with fail
    refine (unhide q2 _ ((unhide HE).keep (unhide B5))).mono ?_
    rintro e w6 ⟨⟨v', u1, u2, ok', rfl, ow6, hvi6⟩, hb6⟩
    obtain ⟨e3, e4⟩ := (unhide HV).uniq (unhide hvi6)
    subst e3 e4
    obtain ⟨p1, r1, e1⟩ := own_sl ow6.i
    subst e1
    obtain ⟨p2, r2, e2⟩ := own_sl ow6.n
    subst e2
    have ba6 := bAl (Below.refl w6.heap.size w6) (.cells #[.int .i64 v.k, .int .i64 v.a.x, .int .i64 v.a.n, .string v.a.t, .string v.a.y, .slice p1 v.items.length r1, .slice p2 v.names.length r2] 31)
    have H0 := hide (RowIs.new w6 #[.int .i64 v.k, .int .i64 v.a.x, .int .i64 v.a.n, .string v.a.t, .string v.a.y, .slice p1 v.items.length r1, .slice p2 v.names.length r2] 31)
    have HW := hide (ow6.keep ba6)
    replace M4 := hide (((unhide M4).keep hb6).keep ba6)
    replace G4 := hide (((unhide G4).keep hb6).keep ba6)
    replace R4 := hide (((unhide R4).keep hb6).keep ba6)
    replace OI := hide (own_keepT (own_keepT (unhide OI) hb6) ba6)
    replace ON := hide (own_keepT (own_keepT (unhide ON) hb6) ba6)
    have B6 := hide (bTr (bTr (unhide B5) hb6) ba6)
    obtain ⟨W6, hW6⟩ : ∃ W6, W6 = w6.alloc (.cells #[.int .i64 v.k, .int .i64 v.a.x, .int .i64 v.a.n, .string v.a.t, .string v.a.y, .slice p1 v.items.length r1, .slice p2 v.names.length r2] 31) := ⟨_, rfl⟩
    have HW6 := hide hW6.symm
    rw [← hW6] at H0 HW M4 G4 R4 OI ON B6
    clear hW6 ow6 hb6 ba6 hvi6 B5
    unfold VRet
    iterate 20 (try (first | go_values | go_skip | go_guarded | go_step | go_upon | go_simp))
    rw [unhide HW6]
    clear HW6
    have m0 := ((unhide R4)).at (o := 0) (v := .int .i64 v.k) rfl
    have m1 := ((unhide R4)).at (o := 1) (v := .int .i64 v.a.x) rfl
    have m2 := ((unhide R4)).at (o := 2) (v := .int .i64 v.a.n) rfl
    have m3 := ((unhide R4)).at (o := 3) (v := .string v.a.t) rfl
    have m4 := ((unhide R4)).at (o := 4) (v := .string v.a.y) rfl
    have m5 := ((unhide R4)).at (o := 5) (v := .slice a1 v.items.length c1) rfl
    have m6 := ((unhide R4)).at (o := 6) (v := .slice a2 v.names.length c2) rfl
    have n0 := ((unhide H0)).at (o := 0) (v := .int .i64 v.k) rfl
    have n1 := ((unhide H0)).at (o := 1) (v := .int .i64 v.a.x) rfl
    have n2 := ((unhide H0)).at (o := 2) (v := .int .i64 v.a.n) rfl
    have n3 := ((unhide H0)).at (o := 3) (v := .string v.a.t) rfl
    have n4 := ((unhide H0)).at (o := 4) (v := .string v.a.y) rfl
    have n5 := ((unhide H0)).at (o := 5) (v := .slice p1 v.items.length r1) rfl
    have n6 := ((unhide H0)).at (o := 6) (v := .slice p2 v.names.length r2) rfl
    have qe := hide (eqValue_same v p1 p2 a1 a2 v.items.length r1 v.names.length r2 v.items.length c1 v.names.length c2 W6 (unhide ML1) (unhide ML2) (sla_own (unhide HW).i) (sls_own (unhide HW).n) (sla_own (unhide OI)) (sls_own (unhide ON)))
    go_wp2_with fail
    refine (unhide qe).mono ?_
    rintro e w7 ⟨rfl, hb7⟩
    replace M4 := hide ((unhide M4).keep hb7)
    replace G4 := hide ((unhide G4).keep hb7)
    have B7 := hide (bTr (unhide B6) hb7)
    clear hb7 qe B6 H0 HW R4 OI ON m0 n0 m1 n1 m2 n2 m3 n3 m4 n4 m5 n5 m6 n6
    have qh := hide (heldValue_own v _ _ w7 li ln (unhide M4) ⟨_, _, rfl⟩ ⟨_, _, rfl⟩)
    unfold VRet at qh
    rw [hQ] at qh
    have n0 := ((unhide G4)).at (o := 0) (v := .int .i64 v.k) rfl
    have n1 := ((unhide G4)).at (o := 1) (v := .int .i64 v.a.x) rfl
    have n2 := ((unhide G4)).at (o := 2) (v := .int .i64 v.a.n) rfl
    have n3 := ((unhide G4)).at (o := 3) (v := .string v.a.t) rfl
    have n4 := ((unhide G4)).at (o := 4) (v := .string v.a.y) rfl
    have n5 := ((unhide G4)).at (o := 5) (v := .slice b1 v.items.length d1) rfl
    have n6 := ((unhide G4)).at (o := 6) (v := .slice b2 v.names.length d2) rfl
    go_wp2_with fail
    refine (unhide qh).mono ?_
    rintro e w8 ⟨rfl, hb8⟩
    have B8 := hide (bTr (unhide B7) hb8)
    clear hb8 qh B7 n0 n1 n2 n3 n4 n5 n6
    go_wp2_with fail
    go_ret
    exact ⟨rfl, unhide B8⟩
  · go_enter Tryz.func4, Tryz.ntmps4
    go_wp2_with fail
    go_ret
    exact ⟨rfl, Below.refl _ _⟩
set_option maxRecDepth 100000 in
theorem lifted (os : Os) (started : os.Started) (H : Type) (enc : TypeId × Value → H) :
    ReturnsInHanded {} Tryz.checked os 4 .any (fun w args => (Rows.fnExactReadValueSpec.pre enc Tryz.prog Tryz.f4 [] false w args ∧ laidMetH Tryz.prog laid7 w) ∧ sizedMet enc Tryz.prog Tryz.f4 (OpenSpec.ofChange Rows.fnExactReadValueSpec) false w args)
      (Rows.fnExactReadValueSpec.post enc Tryz.prog Tryz.f4 false true false false) := by
  refine handed_shaped (C := Tryz.checked) (X := fun w _ => laidMetH Tryz.prog laid7 w) (fun _ _ _ hh h => h.of_heap hh) own started (by kernel_rfl) Tryz.func4
    (ChangeSpec.witness_shaped (enc := enc) (C := Tryz.checked) (os := os) (X := fun w _ => laidMetH Tryz.prog laid7 w) false (World.laidAll Tryz.prog os laid7) #[.string ByteArray.empty] 8 (World.laidAll_os _ _ _) (World.shaped_of_ZipB (by kernel_rfl) (by kernel_rfl)) (by kernel_rfl) (by kernel_rfl) (by kernel_rfl) (all_met7 os _)) ?_
  intro W base args ds gs before hval0 hW hSh hL
  have hval : ∀ (j : Nat) t v, Tryz.f4.params[j]? = some t → args[j]? = some v → Value.okWide Tryz.prog W .any base t v := hval0
  have hW' := hW
  obtain ⟨p, q, hA0, hV, rfl, hfz, hnd⟩ := hW
  have hA : DataW.TrodAll enc Tryz.prog W 0 (fun _ => true) true Tryz.f4.params.toList args.toList ds p := hA0
  rw [Tryz.params4] at hA hval
  obtain ⟨v0, vs0, d0, ds0, p0, q0, hargs, rfl, rfl, h0, r0⟩ := trodAll_cons hA
  obtain ⟨rfl, rfl, rfl⟩ := trodAll_nil r0
  obtain rfl : args = #[v0] := by cases args; simp_all
  obtain ⟨rfl, rfl⟩ := trodVars_none hV
  obtain ⟨a0, rfl, rfl, rfl, w0⟩ := open_string Tryz.underlying9 (hval 0 9 v0 rfl rfl) h0
  clear hA0 hval0
  refine (walk a0 W w0 (env_of_laid7 hL hSh)).mono fun e W' ⟨he, bel⟩ => ?_
  subst he
  exact ⟨_, rfl, _, _, _, [], _, [], hW', trodAll_mk1 (shut_bool Tryz.underlying4 _), (trodAll_cons_mk (shut_string Tryz.underlying9 w0) trodAll_mk0), rfl, bel.frame _, fun h => by cases h⟩

theorem row : Rows.FnExactReadValueSaid :=
  OpenClaim.holds_of_wide 4 Tryz.f4 rfl rfl rfl rfl rfl rfl rfl ⟨rfl, rfl, rfl, rfl, rfl⟩ rfl rfl rfl rfl rfl (by kernel_rfl) Tryz.func4 (by kernel_rfl)
    (of_decide_eq_true (by kernel_rfl)) (by unfold Func.isWrapper; first | (rw [if_pos (by decide +kernel)]; kernel_rfl) | (rw [if_neg (by decide +kernel)]; exact ⟨rfl, rfl⟩))
    (fun os started H enc _ => lifted os started H enc)
theorem card : Rows.FnExactReadValueCardSaid :=
  Claim7.holds_tied_plain_at .later [] [.data, .data, .data, .data, .sentinel, .sentinel, .pinned] true (true, "2f3e2cbe07dc248667d37b29720da327fead2a06f03020b4fac5e49c8efb0577") true
    row (fun _ h => by cases h) (by kernel_rfl) (fun _ h => by cases h) fnExactReadValue_row_tie rfl ⟨rfl, rfl⟩ (by kernel_rfl) rfl
    (fun f fn hf hfn => by
      obtain rfl : f = 4 := Option.some.inj ((show Tryz.prog.funcNamed "loop.example/g00036/laws.FnExactReadValue" = some 4 by kernel_rfl).symm.trans hf) |>.symm
      obtain rfl : fn = Tryz.f4 := (Option.some.inj (Tryz.func4.symm.trans hfn)).symm
      exact ⟨by kernel_rfl, fun j t ht => by
        rw [Tryz.params4] at ht
        have hm : t ∈ [9] := by simpa using Array.mem_of_getElem? ht
        have hall : ([9].all fun u => !Tryz.prog.wantsStandIn u) = true := by kernel_rfl
        exact (show Tryz.prog.wantsStandIn t = false by simpa using List.all_eq_true.1 hall t hm)⟩)
    (by kernel_rfl)
end Go.Proofs.YtijfgfdagfchiaaGreatDoor.V.fnExactReadValue
namespace Go.Proofs.YtijfgfdagfchiaaGreatDoor
theorem fnExactReadValue_holds : Rows.FnExactReadValueCardSaid := V.fnExactReadValue.card
end Go.Proofs.YtijfgfdagfchiaaGreatDoor
