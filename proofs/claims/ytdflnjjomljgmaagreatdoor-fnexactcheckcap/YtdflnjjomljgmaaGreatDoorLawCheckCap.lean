/- LawCheckCap, one behind the other. -/
import Derived.Test.YtdflnjjomljgmaaGreatDoorRows
import Derived.Test.YtdflnjjomljgmaaGreatDoorCards
import Derived.Test.YtdflnjjomljgmaaGreatDoorTie
import Derived.Test.YtdflnjjomljgmaaGreatDoorJ26
import Derived.Test.YtdflnjjomljgmaaGreatDoorJ45
import Derived.WalkKit
import Derived.ProofKit
import Derived.OpenShut
import Derived.ShutString
import Derived.ChangeOld
import Derived.Below
import Derived.Lib.SmallJoins
import Derived.LaidMore
import Derived.ChangeVars
import Derived.SevenTiedAt
import Derived.Stop.Joined
/- The row and the card of laws.FnExactCheckCap: its walk, then the row's step. -/
namespace Go.Proofs.YtdflnjjomljgmaaGreatDoor.fnExactCheckCap
open Go.ChangeShapes Go.WideShapes Go.ChangeAt Go.RowKit Go.Joins
open Go.ChangeMaps (open_string shut_string)
set_option linter.unusedVariables false

theorem vars_kept5m {H : Type} (enc : TypeId × Value → H) {W W' : World} {sp : Nat → Bool} (h : W.var? Tryz.prog "loop.example/g00036/impl.opSigns" = some V.cellsK) (hz : 0 < W.heap.size) (k : W.var? Tryz.prog "loop.example/g00036/impl.multipliers" = some D.cellsM) (kz : 2 < W.heap.size) (hb : Below W.heap.size W W') :
    DataW.TrodVars enc Tryz.prog W' sp ["loop.example/g00036/impl.multipliers", "loop.example/g00036/impl.opSigns"] [Rows.laid_loop_example_g00036_impl_multipliers, Rows.laid_loop_example_g00036_impl_opSigns] (MemPlace.row ⟨2, 0, none⟩ D.cellsM.size ++ [] ++ (MemPlace.row ⟨0, 0, none⟩ V.cellsK.size ++ [])) := by
  have hv : W'.var? Tryz.prog "loop.example/g00036/impl.opSigns" = some V.cellsK := by
    rw [← h]
    unfold World.var?
    rw [V.gKw]
    simp only [Option.bind_some]
    rw [hb.block 0 hz]
  have kv : W'.var? Tryz.prog "loop.example/g00036/impl.multipliers" = some D.cellsM := by
    rw [← k]
    unfold World.var?
    rw [D.gMul]
    simp only [Option.bind_some]
    rw [hb.block 2 kz]
  exact ⟨_, _, D.cellsM, 3, [], _, D.gMul, D.tMul, kv, D.reads_mul enc W' sp, trodVars_mk1 V.gKw V.tKw hv (V.reads_kw enc W' sp), rfl⟩

open V in
set_option maxRecDepth 100000 in
theorem lifted (os : Os) (started : os.Started) (H : Type) (enc : TypeId × Value → H) :
    ReturnsInHanded {} Tryz.checked os 3 .any (fun w args => (Rows.fnExactCheckCapSpec.pre enc Tryz.prog Tryz.f3 [] false w args ∧ laidMetH Tryz.prog D.laid5 w) ∧ sizedMet enc Tryz.prog Tryz.f3 (OpenSpec.ofChange Rows.fnExactCheckCapSpec) false w args)
      (Rows.fnExactCheckCapSpec.post enc Tryz.prog Tryz.f3 false true false false) := by
  refine returnsInHanded_of_change_and (C := Tryz.checked) (X := fun w _ => laidMetH Tryz.prog D.laid5 w) (fun _ _ _ hh h => h.of_heap hh) V.own started (by kernel_rfl) Tryz.func3
    (ChangeSpec.witness_shaped (enc := enc) (C := Tryz.checked) (os := os) (X := fun w _ => laidMetH Tryz.prog D.laid5 w) false (World.doorLaid Tryz.prog 400 os) #[.slice none 0 0, .agg #[.string ByteArray.empty, .slice none 0 0, .slice none 0 0], .agg #[.int .i64 0, .int .i64 0, .int .i64 0, .string ByteArray.empty, .string ByteArray.empty, .slice none 0 0, .slice none 0 0]] 8 rfl (World.shaped_of_RefB (by kernel_rfl) (by kernel_rfl)) (by kernel_rfl) (by kernel_rfl) (by kernel_rfl) (D.door_met5 os _)) ?_
  intro W base args ds gs before hval0 hW _ _ hL _
  have hval : ∀ (j : Nat) t v, Tryz.f3.params[j]? = some t → args[j]? = some v → Value.okWide Tryz.prog W .any base t v := hval0
  have hW' := hW
  obtain ⟨p, q, hA0, hV0, rfl, hfz, hnd⟩ := hW
  have hA : DataW.TrodAll enc Tryz.prog W 0 (fun _ => true) true Tryz.f3.params.toList args.toList ds p := hA0
  have hV : DataW.TrodVars enc Tryz.prog W (fun _ => true) ["loop.example/g00036/impl.multipliers", "loop.example/g00036/impl.opSigns"] gs q := hV0
  rw [Tryz.params3] at hA hval
  obtain ⟨v0, vs0, d0, ds0, p0, q0, hargs, rfl, rfl, h0, r0⟩ := trodAll_cons hA
  obtain ⟨v1, vs1, d1, ds1, p1, q1, rfl, rfl, rfl, h1, r1⟩ := trodAll_cons r0
  obtain ⟨v2, vs2, d2, ds2, p2, q2, rfl, rfl, rfl, h2, r2⟩ := trodAll_cons r1
  obtain ⟨rfl, rfl, rfl⟩ := trodAll_nil r2
  obtain rfl : args = #[v0, v1, v2] := by cases args; simp_all
  cases gs with
  | nil => exact absurd hV (by simp [DataW.TrodVars])
  | cons dv dvs =>
  obtain ⟨g, t, cs, fuel, p', q', hg, ht, hvar, hd, hs, rfl⟩ := hV
  obtain ⟨g2, t2, cs2, fuel2, dv2, p2', rfl, hg2, ht2, hvar2, hd2, rfl⟩ := trodVars_one hs
  obtain rfl := Option.some.inj (D.gMul.symm.trans hg)
  obtain rfl := Option.some.inj (D.tMul.symm.trans ht)
  obtain rfl : cs = D.cellsM := Option.some.inj (hvar.symm.trans (D.mults_of5 hL))
  obtain ⟨rfl, rfl⟩ := DataW.Trod.unique (v := .agg D.cellsM) ⟨fuel, hd⟩ ⟨3, D.reads_mul enc W _⟩
  obtain rfl := Option.some.inj (V.gKw.symm.trans hg2)
  obtain rfl := Option.some.inj (V.tKw.symm.trans ht2)
  obtain rfl : cs2 = V.cellsK := Option.some.inj (hvar2.symm.trans (D.signs_of5 hL))
  obtain ⟨rfl, rfl⟩ := DataW.Trod.unique (v := .agg V.cellsK) ⟨fuel2, hd2⟩ ⟨3, V.reads_kw enc W _⟩
  have k0 := h0
  have k1 := h1
  have k2 := h2
  have lt0 : ∀ x ∈ p0, x.block < W.heap.size := by obtain ⟨m, hm⟩ := k0; exact DataW.trod_lt m _ _ _ hm
  have lt1 : ∀ x ∈ p1, x.block < W.heap.size := by obtain ⟨m, hm⟩ := k1; exact DataW.trod_lt m _ _ _ hm
  have lt2 : ∀ x ∈ p2, x.block < W.heap.size := by obtain ⟨m, hm⟩ := k2; exact DataW.trod_lt m _ _ _ hm
  obtain ⟨ak, lk, ck, KK, e0, sk, lk'⟩ : ∃ (ak : Option Addr) (lk ck : Nat) (K : List UInt8), v0 = .slice ak lk ck ∧ D.SlB W W.heap.size ak lk K ∧ lk ≤ maxLen := by
    obtain ⟨a, l, c, rfl⟩ := okWide_slice Tryz.underlying22 (hval 0 22 v0 rfl rfl)
    obtain ⟨m, hm⟩ := h0
    rcases open_ints Tryz.underlying22 Tryz.underlying5 (by kernel_rfl) hm with ⟨hcs, _⟩ | ⟨x, l', c', zs, hcs, _, hl, hmm, hz, _, hcell, hwz⟩
    · simp [Value.cells] at hcs
      obtain ⟨rfl, rfl, rfl⟩ := hcs
      exact ⟨none, 0, 0, [], rfl, ⟨rfl, .inl rfl⟩, Nat.zero_le _⟩
    · simp [Value.cells] at hcs
      obtain ⟨rfl, rfl, rfl⟩ := hcs
      obtain ⟨⟨l', hs⟩, h1, h2⟩ := D.bytes_in (w := W) (a := some x) (len := l) (cap := zs.length) (zs := zs) (.inr ⟨x, rfl, by rw [hz]; split <;> omega, by rw [hz]; split <;> omega, rfl, hcell, hwz⟩)
      exact ⟨_, _, _, l', rfl, hs, Nat.le_trans h1 h2⟩
  subst e0
  obtain ⟨id, b1, b2, n1, c1, n2, c2, T, G, e0, o0, s0, ok1, l1, t0, l2⟩ := D.came_Cap (hval 1 25 v1 rfl rfl) h1
  subst e0
  have en := t0.1
  subst en
  obtain ⟨vv, u1, u2, m1, f1, m2, f2, e0, vok, vi, vn, x1, x2⟩ := V.read_value (hval 2 31 v2 rfl rfl) h2
  subst e0
  clear hA0 hV0 hval0
  have hSg := V.signs_of (D.signs_of5 hL)
  have hMu := D.mults_of (D.mults_of5 hL)
  refine (D.walkC ⟨id, b1, b2, ak, u1, u2, n1, c1, c2, lk, ck, m1, f1, m2, f2, T, G, KK, vv⟩ W ⟨o0, ok1, l1, l2, vok, x1, x2, lk'⟩ s0 t0 sk vi vn (D.tab_of5 hL) hSg hMu).mono fun e W' ⟨he, bel⟩ => ?_
  subst he
  exact ⟨_, rfl, _, _, _, [], _, _, hW', trodAll_mk1 (shut_bool Tryz.underlying4 _), (trodAll_cons_mk (Below.trod V.laidOut (by kernel_rfl) (of_decide_eq_true (by kernel_rfl)) k0 bel lt0) (trodAll_cons_mk (Below.trod V.laidOut (by kernel_rfl) (of_decide_eq_true (by kernel_rfl)) k1 bel lt1) (trodAll_cons_mk (Below.trod V.laidOut (by kernel_rfl) (of_decide_eq_true (by kernel_rfl)) k2 bel lt2) trodAll_mk0))), vars_kept5m enc (D.signs_of5 hL) hSg.z (D.mults_of5 hL) hMu.1 bel, bel.frame _, fun h => by cases h⟩

theorem row : Rows.FnExactCheckCapSaid :=
  OpenClaim.holds_of_wide 3 Tryz.f3 rfl rfl rfl rfl rfl rfl rfl ⟨rfl, rfl, rfl, rfl, rfl⟩ rfl rfl rfl rfl rfl (by kernel_rfl) Tryz.func3 (by kernel_rfl)
    (of_decide_eq_true (by kernel_rfl)) (by unfold Func.isWrapper; first | (rw [if_pos (by decide +kernel)]; kernel_rfl) | (rw [if_neg (by decide +kernel)]; exact ⟨rfl, rfl⟩))
    (fun os started H enc _ => lifted os started H enc)
theorem card : Rows.FnExactCheckCapCardSaid :=
  Claim7.holds_tied_plain_at .later [] [.data, .data, .data, .data, .data] true (true, "dc1b8ed59baa7876c4ce44794c10f11bc572db6a439cce6f7106a2b12fff639c") false
    row (fun _ h => by cases h) (by kernel_rfl) (fun _ h => by cases h) fnExactCheckCap_row_tie rfl ⟨rfl, rfl⟩ (by kernel_rfl) rfl
    (fun f fn hf hfn => by
      obtain rfl : f = 3 := Option.some.inj ((show Tryz.prog.funcNamed "loop.example/g00036/laws.FnExactCheckCap" = some 3 by kernel_rfl).symm.trans hf) |>.symm
      obtain rfl : fn = Tryz.f3 := (Option.some.inj (Tryz.func3.symm.trans hfn)).symm
      exact ⟨by kernel_rfl, fun j t ht => by
        rw [Tryz.params3] at ht
        have hm : t ∈ [22, 25, 31] := by simpa using Array.mem_of_getElem? ht
        have hall : ([22, 25, 31].all fun u => !Tryz.prog.wantsStandIn u) = true := by kernel_rfl
        exact (show Tryz.prog.wantsStandIn t = false by simpa using List.all_eq_true.1 hall t hm)⟩)
    (by kernel_rfl)
end Go.Proofs.YtdflnjjomljgmaaGreatDoor.fnExactCheckCap
namespace Go.Proofs.YtdflnjjomljgmaaGreatDoor
theorem fnExactCheckCap_holds : Rows.FnExactCheckCapCardSaid := fnExactCheckCap.card
end Go.Proofs.YtdflnjjomljgmaaGreatDoor
