/- The row of laws.FnBlocks: its walk, then the row's step. -/
import Derived.Test.YthbakjnojjkmmaaRows
import Derived.Test.YthbakjnojjkmmaaMore
import Derived.Test.YthbakjnojjkmmaaDrw
import Derived.Test.YthbakjnojjkmmaaAddrI
import Derived.Test.YthbakjnojjkmmaaBlkPlain
import Derived.WalkKit
import Derived.ProofKit
import Derived.OpenShut
import Derived.ShutString
import Derived.ChangeOld
import Derived.Below
import Derived.Lib.SmallJoins
namespace Go.Proofs.Ythbakjnojjkmmaa.fnBlocks
open Go.ChangeShapes Go.WideShapes Go.ChangeAt Go.RowKit Go.Joins
open Go.ChangeMaps (open_string shut_string)
set_option linter.unusedVariables false

theorem own : ownKnob Try.prog.godebug = none := by kernel_rfl
theorem laidOut : laidOutB Try.prog = true := by kernel_rfl

/-- A slice of integers that came in: nil, or a row of 'cap' cells. -/
def IsRow (k : IntKind) (w : World) (a : Option Addr) (len cap : Nat) (zs : List Int) : Prop :=
  (a = none ∧ len = 0 ∧ cap = 0 ∧ zs = []) ∨
  ∃ x, a = some x ∧ len ≤ cap ∧ cap ≤ maxLen ∧ zs.length = cap ∧ (∀ i, i < zs.length → w.cell? (x.add i) = some (.int k (zs.getD i 0))) ∧ ∀ n ∈ zs, (Lit.int k n).wf = true

theorem code_later {w w1 : World} {a : Option Addr} {len : Nat} (h : CodeAt w w.heap.size a len) (hb : Below w.heap.size w w1) : CodeAt w1 w1.heap.size a len := by
  refine ⟨h.1, ?_⟩
  rcases h.2 with e | ⟨blk, off, e, q, n, r⟩
  · exact .inl e
  · refine .inr ⟨blk, off, e, Nat.lt_of_lt_of_le q hb.size, Nat.lt_of_lt_of_le q hb.size, fun i hi => ?_⟩
    obtain ⟨x, h1, h2, h3⟩ := r i hi
    exact ⟨x, h1, h2, by rw [World.cell?_of_block (hb.block blk q)]; exact h3⟩
set_option maxHeartbeats 2000000 in
theorem walk (a : Option Addr) (len cap : Nat) (zs : List Int) (a' : Option Addr) (len' cap' : Nat) (zs' : List Int) (w : World) (hr : IsRow .u8 w a len cap zs) (hr' : IsRow .u8 w a' len' cap' zs') :
    Calls Try.prog 3 #[.slice a len cap, .slice a' len' cap'] w fun e w' => e = .returned (.bool true) ∧ Below w.heap.size w w' := by
  have hc := code_of hr
  have hc' := code_of hr'
  clear hr hr'
  have hl := hc.1
  have hl' := hc'.1
  unfold maxLen at hl hl'
  have HC := hide hc
  have HC' := hide hc'
  clear hc hc'
  by_cases h1 : (1048576 : Int) < (len : Int)
  · go_enter Try.func3, Try.ntmps3
    go_wp2_with fail
    go_ret
    exact ⟨rfl, Below.refl _ _⟩
  by_cases h2 : (1048576 : Int) < (len' : Int)
  · go_enter Try.func3, Try.ntmps3
    go_wp2_with fail
    go_ret
    exact ⟨rfl, Below.refl _ _⟩
  clear hl hl'
  go_enter Try.func3, Try.ntmps3
  go_wp2_with fail
  refine (drawAddrIn_any a len cap w (unhide HC)).mono ?_
  rintro e w1 ⟨⟨x, n, t, y, x', n', t', y', ⟨s1, s2, s3⟩, ⟨s1', s2', s3'⟩, rfl⟩, hb1⟩
  have B1 := hide hb1
  clear hb1
  go_wp2_with fail
  refine (drawAddrIn_any a' len' cap' _ (code_later (unhide HC') (bAl (bAl (unhide B1) _) _))).mono ?_
  rintro e w2 ⟨⟨x2, n2, t2, y2, x3, n3, t3, y3, ⟨s4, s5, s6⟩, _, rfl⟩, hb2⟩
  have qa := ((AtomAt.new w1 x n t y 24).more (.cells #[.int .i64 x', .int .i64 n', .string t', .string y'] 24)).keep hb2
  have qb := (AtomAt.new1 w1 (.cells #[.int .i64 x, .int .i64 n, .string t, .string y] 24) x' n' t' y' 24).keep hb2
  have B2 := hide (bTr (bAl (bAl (unhide B1) _) _) hb2)
  clear hb2 B1 HC HC' h1 h2
  replace qa := qa.more (.cells #[.int .i64 x2, .int .i64 n2, .string t2, .string y2] 24)
  replace qb := qb.more (.cells #[.int .i64 x2, .int .i64 n2, .string t2, .string y2] 24)
  have qc := AtomAt.new w2 x2 n2 t2 y2 24
  replace B2 := hide (bAl (unhide B2) (.cells #[.int .i64 x2, .int .i64 n2, .string t2, .string y2] 24))
  have QA := hide qa
  have QB := hide qb
  have QC := hide qc
  clear qa qb qc
  go_wp2_with fail
  replace QA := hide ((unhide QA).more (.cells #[.int .i64 x3, .int .i64 n3, .string t3, .string y3] 24))
  replace QB := hide ((unhide QB).more (.cells #[.int .i64 x3, .int .i64 n3, .string t3, .string y3] 24))
  replace QC := hide ((unhide QC).more (.cells #[.int .i64 x3, .int .i64 n3, .string t3, .string y3] 24))
  replace B2 := hide (bAl (unhide B2) (.cells #[.int .i64 x3, .int .i64 n3, .string t3, .string y3] 24))
  generalize (w2.alloc (.cells #[.int .i64 x2, .int .i64 n2, .string t2, .string y2] 24)).alloc (.cells #[.int .i64 x3, .int .i64 n3, .string t3, .string y3] 24) = w3 at QA QB QC B2 ⊢
  obtain ⟨pab, epab⟩ : ∃ p, addrInB x n t y x' n' t' y' = p := ⟨_, rfl⟩
  obtain ⟨pba, epba⟩ : ∃ p, addrInB x' n' t' y' x n t y = p := ⟨_, rfl⟩
  obtain ⟨pbc, epbc⟩ : ∃ p, addrInB x' n' t' y' x2 n2 t2 y2 = p := ⟨_, rfl⟩
  obtain ⟨pac, epac⟩ : ∃ p, addrInB x n t y x2 n2 t2 y2 = p := ⟨_, rfl⟩
  obtain ⟨paa, epaa⟩ : ∃ p, addrInB x n t y x n t y = p := ⟨_, rfl⟩
  obtain ⟨ga, ega⟩ : ∃ p, goodAtom x n t y = p := ⟨_, rfl⟩
  obtain ⟨gx, egx⟩ : ∃ p, (x == 6) = p := ⟨_, rfl⟩
  have kab : Hid (∀ w, Calls Try.prog 12 #[.agg #[.int .i64 x, .int .i64 n, .string t, .string y], .agg #[.int .i64 x', .int .i64 n', .string t', .string y']] w fun e w' => e = .returned (.bool pab) ∧ Below w.heap.size w w') := hide (fun w => by have := iAddrIn_any x n t y x' n' t' y' w (by omega) (by unfold maxLen; omega) (by unfold maxLen; omega) (by omega) (by unfold maxLen; omega) (by unfold maxLen; omega); rw [epab] at this; exact this)
  have sab : Hid (∀ w, Calls Try.prog 13 #[.agg #[.int .i64 x, .int .i64 n, .string t, .string y], .agg #[.int .i64 x', .int .i64 n', .string t', .string y']] w fun e w' => e = .returned (.bool pab) ∧ Below w.heap.size w w') := hide (fun w => by have := sAddrIn_any x n t y x' n' t' y' w (by omega) (by unfold maxLen; omega) (by unfold maxLen; omega) (by omega) (by unfold maxLen; omega) (by unfold maxLen; omega); rw [epab] at this; exact this)
  have kba : Hid (∀ w, Calls Try.prog 12 #[.agg #[.int .i64 x', .int .i64 n', .string t', .string y'], .agg #[.int .i64 x, .int .i64 n, .string t, .string y]] w fun e w' => e = .returned (.bool pba) ∧ Below w.heap.size w w') := hide (fun w => by have := iAddrIn_any x' n' t' y' x n t y w (by omega) (by unfold maxLen; omega) (by unfold maxLen; omega) (by omega) (by unfold maxLen; omega) (by unfold maxLen; omega); rw [epba] at this; exact this)
  have kbc : Hid (∀ w, Calls Try.prog 12 #[.agg #[.int .i64 x', .int .i64 n', .string t', .string y'], .agg #[.int .i64 x2, .int .i64 n2, .string t2, .string y2]] w fun e w' => e = .returned (.bool pbc) ∧ Below w.heap.size w w') := hide (fun w => by have := iAddrIn_any x' n' t' y' x2 n2 t2 y2 w (by omega) (by unfold maxLen; omega) (by unfold maxLen; omega) (by omega) (by unfold maxLen; omega) (by unfold maxLen; omega); rw [epbc] at this; exact this)
  have kac : Hid (∀ w, Calls Try.prog 12 #[.agg #[.int .i64 x, .int .i64 n, .string t, .string y], .agg #[.int .i64 x2, .int .i64 n2, .string t2, .string y2]] w fun e w' => e = .returned (.bool pac) ∧ Below w.heap.size w w') := hide (fun w => by have := iAddrIn_any x n t y x2 n2 t2 y2 w (by omega) (by unfold maxLen; omega) (by unfold maxLen; omega) (by omega) (by unfold maxLen; omega) (by unfold maxLen; omega); rw [epac] at this; exact this)
  have kaa : Hid (∀ w, Calls Try.prog 12 #[.agg #[.int .i64 x, .int .i64 n, .string t, .string y], .agg #[.int .i64 x, .int .i64 n, .string t, .string y]] w fun e w' => e = .returned (.bool paa) ∧ Below w.heap.size w w') := hide (fun w => by have := iAddrIn_any x n t y x n t y w (by omega) (by unfold maxLen; omega) (by unfold maxLen; omega) (by omega) (by unfold maxLen; omega) (by unfold maxLen; omega); rw [epaa] at this; exact this)
  have kg : Hid (∀ w, Calls Try.prog 14 #[.agg #[.int .i64 x, .int .i64 n, .string t, .string y]] w fun e w' => e = .returned (.bool ga) ∧ Below w.heap.size w w') := hide (fun w => by have := sGoodAtom_any x n t y w (by omega) (by unfold maxLen; omega) (by unfold maxLen; omega); rw [ega] at this; exact this)
  have self' : paa = (gx && ga) := by rw [← epaa, addrIn_self]; unfold isBlk; rw [egx, ega]
  have AN := hide (fun (h : pab = true) (k : pba = true) => addrIn_anti (epab.trans h) (epba.trans k))
  have TR := hide (fun (h : pab = true) (k : pbc = true) => epac.symm.trans (addrIn_trans (epab.trans h) (epbc.trans k)))
  have EX := hide egx
  clear epab epba epbc epac epaa ega
  have ne : Nonempty (Kept w3) := ⟨⟨w3, Below.refl _ _⟩⟩
  have c0 := fun k : Kept w3 => ((unhide QA).kept k).c0
  have c1 := fun k : Kept w3 => ((unhide QA).kept k).c1
  have c2 := fun k : Kept w3 => ((unhide QA).kept k).c2
  have c3 := fun k : Kept w3 => ((unhide QA).kept k).c3
  have d0 := fun k : Kept w3 => ((unhide QB).kept k).c0
  have d1 := fun k : Kept w3 => ((unhide QB).kept k).c1
  have d2 := fun k : Kept w3 => ((unhide QB).kept k).c2
  have d3 := fun k : Kept w3 => ((unhide QB).kept k).c3
  subst self'
  cases pab
  · cases ga <;> cases gx
    all_goals
      refine wp_region_kept (by kernel_rfl) (by kernel_rfl) ?_
      repeat (first
        | go_big_quiet_step (first | (go_at_call_of 12 (Value.int IntKind.i64 n'); exact kept_call (unhide kab _)) | (go_at_call 13; exact kept_call (unhide sab _)) | (go_at_call 12; exact kept_call (unhide kaa _)) | (go_at_call 14; exact kept_call (unhide kg _)))
        | quiet_step (first | (go_at_call_of 12 (Value.int IntKind.i64 n'); exact kept_call (unhide kab _)) | (go_at_call 13; exact kept_call (unhide sab _)) | (go_at_call 12; exact kept_call (unhide kaa _)) | (go_at_call 14; exact kept_call (unhide kg _))))
      refine wpQuiet_nil ?_
      rintro _ ⟨k, rfl⟩
      clear ne c0 c1 c2 c3 d0 d1 d2 d3
      obtain ⟨w4, hb4⟩ := k
      replace QA := hide ((unhide QA).keep hb4)
      replace QB := hide ((unhide QB).keep hb4)
      replace QC := hide ((unhide QC).keep hb4)
      replace B2 := hide (bTr (unhide B2) hb4)
      obtain ⟨a0, a1, a2, a3, _⟩ := unhide QA
      obtain ⟨b0, b1, b2, b3, _⟩ := unhide QB
      obtain ⟨c0, c1, c2, c3, _⟩ := unhide QC
      go_wp2_with fail
      refine (unhide kab _).mono ?_
      rintro e w5 ⟨rfl, hb5⟩
      clear a0 a1 a2 a3 b0 b1 b2 b3 c0 c1 c2 c3
      replace QA := hide ((unhide QA).keep hb5)
      replace QB := hide ((unhide QB).keep hb5)
      replace QC := hide ((unhide QC).keep hb5)
      replace B2 := hide (bTr (unhide B2) hb5)
      clear hb5
      obtain ⟨a0, a1, a2, a3, _⟩ := unhide QA
      obtain ⟨b0, b1, b2, b3, _⟩ := unhide QB
      obtain ⟨c0, c1, c2, c3, _⟩ := unhide QC
      go_wp2_with fail
      refine (unhide kab _).mono ?_
      rintro e w6 ⟨rfl, hb6⟩
      clear a0 a1 a2 a3 b0 b1 b2 b3 c0 c1 c2 c3
      replace QA := hide ((unhide QA).keep hb6)
      replace QB := hide ((unhide QB).keep hb6)
      replace QC := hide ((unhide QC).keep hb6)
      replace B2 := hide (bTr (unhide B2) hb6)
      clear hb6
      obtain ⟨a0, a1, a2, a3, _⟩ := unhide QA
      obtain ⟨b0, b1, b2, b3, _⟩ := unhide QB
      obtain ⟨c0, c1, c2, c3, _⟩ := unhide QC
      go_wp2_with fail
      go_ret
      exact ⟨rfl, unhide B2⟩
  · cases ga <;> cases gx
    all_goals
      refine wp_region_kept (by kernel_rfl) (by kernel_rfl) ?_
      repeat (first
        | go_big_quiet_step (first | (go_at_call_of 12 (Value.int IntKind.i64 n'); exact kept_call (unhide kab _)) | (go_at_call 13; exact kept_call (unhide sab _)) | (go_at_call 12; exact kept_call (unhide kaa _)) | (go_at_call 14; exact kept_call (unhide kg _)))
        | quiet_step (first | (go_at_call_of 12 (Value.int IntKind.i64 n'); exact kept_call (unhide kab _)) | (go_at_call 13; exact kept_call (unhide sab _)) | (go_at_call 12; exact kept_call (unhide kaa _)) | (go_at_call 14; exact kept_call (unhide kg _))))
      refine wpQuiet_nil ?_
      rintro _ ⟨k, rfl⟩
      clear ne c0 c1 c2 c3 d0 d1 d2 d3
      obtain ⟨w4, hb4⟩ := k
      replace QA := hide ((unhide QA).keep hb4)
      replace QB := hide ((unhide QB).keep hb4)
      replace QC := hide ((unhide QC).keep hb4)
      replace B2 := hide (bTr (unhide B2) hb4)
      obtain ⟨a0, a1, a2, a3, _⟩ := unhide QA
      obtain ⟨b0, b1, b2, b3, _⟩ := unhide QB
      obtain ⟨c0, c1, c2, c3, _⟩ := unhide QC
      go_wp2_with fail
      refine (unhide kab _).mono ?_
      rintro e w5 ⟨rfl, hb5⟩
      clear a0 a1 a2 a3 b0 b1 b2 b3 c0 c1 c2 c3
      replace QA := hide ((unhide QA).keep hb5)
      replace QB := hide ((unhide QB).keep hb5)
      replace QC := hide ((unhide QC).keep hb5)
      replace B2 := hide (bTr (unhide B2) hb5)
      clear hb5
      obtain ⟨a0, a1, a2, a3, _⟩ := unhide QA
      obtain ⟨b0, b1, b2, b3, _⟩ := unhide QB
      obtain ⟨c0, c1, c2, c3, _⟩ := unhide QC
      go_wp2_with fail
      cases pba
      · refine (unhide kba _).mono ?_
        rintro e w6 ⟨rfl, hb6⟩
        clear a0 a1 a2 a3 b0 b1 b2 b3 c0 c1 c2 c3
        replace QA := hide ((unhide QA).keep hb6)
        replace QB := hide ((unhide QB).keep hb6)
        replace QC := hide ((unhide QC).keep hb6)
        replace B2 := hide (bTr (unhide B2) hb6)
        clear hb6
        obtain ⟨a0, a1, a2, a3, _⟩ := unhide QA
        obtain ⟨b0, b1, b2, b3, _⟩ := unhide QB
        obtain ⟨c0, c1, c2, c3, _⟩ := unhide QC
        go_wp2_with fail
        refine (unhide kab _).mono ?_
        rintro e w7 ⟨rfl, hb7⟩
        clear a0 a1 a2 a3 b0 b1 b2 b3 c0 c1 c2 c3
        replace QA := hide ((unhide QA).keep hb7)
        replace QB := hide ((unhide QB).keep hb7)
        replace QC := hide ((unhide QC).keep hb7)
        replace B2 := hide (bTr (unhide B2) hb7)
        clear hb7
        obtain ⟨a0, a1, a2, a3, _⟩ := unhide QA
        obtain ⟨b0, b1, b2, b3, _⟩ := unhide QB
        obtain ⟨c0, c1, c2, c3, _⟩ := unhide QC
        go_wp2_with fail
        cases pbc
        · refine (unhide kbc _).mono ?_
          rintro e w8 ⟨rfl, hb8⟩
          clear a0 a1 a2 a3 b0 b1 b2 b3 c0 c1 c2 c3
          replace QA := hide ((unhide QA).keep hb8)
          replace QB := hide ((unhide QB).keep hb8)
          replace QC := hide ((unhide QC).keep hb8)
          replace B2 := hide (bTr (unhide B2) hb8)
          clear hb8
          obtain ⟨a0, a1, a2, a3, _⟩ := unhide QA
          obtain ⟨b0, b1, b2, b3, _⟩ := unhide QB
          obtain ⟨c0, c1, c2, c3, _⟩ := unhide QC
          go_wp2_with fail
          go_ret
          exact ⟨rfl, unhide B2⟩
        · obtain rfl : pac = true := unhide TR (by trivial) (by trivial)
          refine (unhide kbc _).mono ?_
          rintro e w8 ⟨rfl, hb8⟩
          clear a0 a1 a2 a3 b0 b1 b2 b3 c0 c1 c2 c3
          replace QA := hide ((unhide QA).keep hb8)
          replace QB := hide ((unhide QB).keep hb8)
          replace QC := hide ((unhide QC).keep hb8)
          replace B2 := hide (bTr (unhide B2) hb8)
          clear hb8
          obtain ⟨a0, a1, a2, a3, _⟩ := unhide QA
          obtain ⟨b0, b1, b2, b3, _⟩ := unhide QB
          obtain ⟨c0, c1, c2, c3, _⟩ := unhide QC
          go_wp2_with fail
          refine (unhide kac _).mono ?_
          rintro e w9 ⟨rfl, hb9⟩
          clear a0 a1 a2 a3 b0 b1 b2 b3 c0 c1 c2 c3
          replace QA := hide ((unhide QA).keep hb9)
          replace QB := hide ((unhide QB).keep hb9)
          replace QC := hide ((unhide QC).keep hb9)
          replace B2 := hide (bTr (unhide B2) hb9)
          clear hb9
          obtain ⟨a0, a1, a2, a3, _⟩ := unhide QA
          obtain ⟨b0, b1, b2, b3, _⟩ := unhide QB
          obtain ⟨c0, c1, c2, c3, _⟩ := unhide QC
          go_wp2_with fail
          go_ret
          exact ⟨rfl, unhide B2⟩
      · obtain ⟨rfl, rfl, rfl, rfl⟩ := unhide AN (by trivial) (by trivial)
        refine (unhide kba _).mono ?_
        rintro e w6 ⟨rfl, hb6⟩
        clear a0 a1 a2 a3 b0 b1 b2 b3 c0 c1 c2 c3
        replace QA := hide ((unhide QA).keep hb6)
        replace QB := hide ((unhide QB).keep hb6)
        replace QC := hide ((unhide QC).keep hb6)
        replace B2 := hide (bTr (unhide B2) hb6)
        clear hb6
        obtain ⟨a0, a1, a2, a3, _⟩ := unhide QA
        obtain ⟨b0, b1, b2, b3, _⟩ := unhide QB
        obtain ⟨c0, c1, c2, c3, _⟩ := unhide QC
        go_wp2_with fail
        refine (unhide kab _).mono ?_
        rintro e w7 ⟨rfl, hb7⟩
        clear a0 a1 a2 a3 b0 b1 b2 b3 c0 c1 c2 c3
        replace QA := hide ((unhide QA).keep hb7)
        replace QB := hide ((unhide QB).keep hb7)
        replace QC := hide ((unhide QC).keep hb7)
        replace B2 := hide (bTr (unhide B2) hb7)
        clear hb7
        obtain ⟨a0, a1, a2, a3, _⟩ := unhide QA
        obtain ⟨b0, b1, b2, b3, _⟩ := unhide QB
        obtain ⟨c0, c1, c2, c3, _⟩ := unhide QC
        go_wp2_with fail
        cases pbc
        · refine (unhide kbc _).mono ?_
          rintro e w8 ⟨rfl, hb8⟩
          clear a0 a1 a2 a3 b0 b1 b2 b3 c0 c1 c2 c3
          replace QA := hide ((unhide QA).keep hb8)
          replace QB := hide ((unhide QB).keep hb8)
          replace QC := hide ((unhide QC).keep hb8)
          replace B2 := hide (bTr (unhide B2) hb8)
          clear hb8
          obtain ⟨a0, a1, a2, a3, _⟩ := unhide QA
          obtain ⟨b0, b1, b2, b3, _⟩ := unhide QB
          obtain ⟨c0, c1, c2, c3, _⟩ := unhide QC
          go_wp2_with fail
          go_ret
          exact ⟨rfl, unhide B2⟩
        · obtain rfl : pac = true := unhide TR (by trivial) (by trivial)
          refine (unhide kbc _).mono ?_
          rintro e w8 ⟨rfl, hb8⟩
          clear a0 a1 a2 a3 b0 b1 b2 b3 c0 c1 c2 c3
          replace QA := hide ((unhide QA).keep hb8)
          replace QB := hide ((unhide QB).keep hb8)
          replace QC := hide ((unhide QC).keep hb8)
          replace B2 := hide (bTr (unhide B2) hb8)
          clear hb8
          obtain ⟨a0, a1, a2, a3, _⟩ := unhide QA
          obtain ⟨b0, b1, b2, b3, _⟩ := unhide QB
          obtain ⟨c0, c1, c2, c3, _⟩ := unhide QC
          go_wp2_with fail
          refine (unhide kac _).mono ?_
          rintro e w9 ⟨rfl, hb9⟩
          clear a0 a1 a2 a3 b0 b1 b2 b3 c0 c1 c2 c3
          replace QA := hide ((unhide QA).keep hb9)
          replace QB := hide ((unhide QB).keep hb9)
          replace QC := hide ((unhide QC).keep hb9)
          replace B2 := hide (bTr (unhide B2) hb9)
          clear hb9
          obtain ⟨a0, a1, a2, a3, _⟩ := unhide QA
          obtain ⟨b0, b1, b2, b3, _⟩ := unhide QB
          obtain ⟨c0, c1, c2, c3, _⟩ := unhide QC
          go_wp2_with fail
          go_ret
          exact ⟨rfl, unhide B2⟩

set_option maxRecDepth 100000 in
theorem lifted (os : Os) (started : os.Started) (H : Type) (enc : TypeId × Value → H) :
    ReturnsInHanded {} Try.checked os 3 .any (Rows.fnBlocksSpec.pre6 enc Try.prog Try.f3 Rows.fnBlocksRow.domain false) (Rows.fnBlocksSpec.post enc Try.prog Try.f3 false true false false) := by
  refine returnsInHanded_of_change (C := Try.checked) own started (by kernel_rfl) Try.func3
    (ChangeSpec.witness6 (enc := enc) (C := Try.checked) false ⟨#[], #[.slice none 0 0, .slice none 0 0], []⟩ 8 (by kernel_rfl) (by kernel_rfl) (by kernel_rfl) (by kernel_rfl)) ?_
  intro W base args ds gs before hval0 hW hcnd _
  have hval : ∀ (j : Nat) t v, Try.f3.params[j]? = some t → args[j]? = some v → Value.okWide Try.prog W .any base t v := hval0
  have hW' := hW
  obtain ⟨p, q, hA0, hV, rfl, hfz, hnd⟩ := hW
  have hA : DataW.TrodAll enc Try.prog W 0 (fun _ => true) true Try.f3.params.toList args.toList ds p := hA0
  rw [Try.params3] at hA hval
  obtain ⟨v0, vs0, d0, ds0, p0, q0, hargs, rfl, rfl, h0, r0⟩ := trodAll_cons hA
  obtain ⟨v1, vs1, d1, ds1, p1, q1, rfl, rfl, rfl, h1, r1⟩ := trodAll_cons r0
  obtain ⟨rfl, rfl, rfl⟩ := trodAll_nil r1
  obtain rfl : args = #[v0, v1] := by cases args; simp_all
  obtain ⟨rfl, rfl⟩ := trodVars_none hV
  obtain ⟨a0, len0, cap0, rfl⟩ := okWide_slice Try.underlying22 (hval 0 22 v0 rfl rfl)
  have k0 := h0
  have lt0 : ∀ x ∈ p0, x.block < W.heap.size := by obtain ⟨m, hm⟩ := k0; exact DataW.trod_lt m _ _ _ hm
  obtain ⟨z0, w0⟩ : ∃ zs, IsRow .u8 W a0 len0 cap0 zs := by
    obtain ⟨fuel, hf⟩ := h0
    rcases open_ints Try.underlying22 Try.underlying5 (by kernel_rfl) hf with ⟨hcs, _⟩ | ⟨x, l, c, zs, hcs, _, hl, hm, hz, _, hcell, hwz⟩
    · simp [Value.cells] at hcs
      obtain ⟨rfl, rfl, rfl⟩ := hcs
      exact ⟨[], .inl ⟨rfl, rfl, rfl, rfl⟩⟩
    · simp [Value.cells] at hcs
      obtain ⟨rfl, rfl, rfl⟩ := hcs
      exact ⟨zs, .inr ⟨_, rfl, hl, hm, by simpa using hz, hcell, hwz⟩⟩
  obtain ⟨a1, len1, cap1, rfl⟩ := okWide_slice Try.underlying22 (hval 1 22 v1 rfl rfl)
  have k1 := h1
  have lt1 : ∀ x ∈ p1, x.block < W.heap.size := by obtain ⟨m, hm⟩ := k1; exact DataW.trod_lt m _ _ _ hm
  obtain ⟨z1, w1⟩ : ∃ zs, IsRow .u8 W a1 len1 cap1 zs := by
    obtain ⟨fuel, hf⟩ := h1
    rcases open_ints Try.underlying22 Try.underlying5 (by kernel_rfl) hf with ⟨hcs, _⟩ | ⟨x, l, c, zs, hcs, _, hl, hm, hz, _, hcell, hwz⟩
    · simp [Value.cells] at hcs
      obtain ⟨rfl, rfl, rfl⟩ := hcs
      exact ⟨[], .inl ⟨rfl, rfl, rfl, rfl⟩⟩
    · simp [Value.cells] at hcs
      obtain ⟨rfl, rfl, rfl⟩ := hcs
      exact ⟨zs, .inr ⟨_, rfl, hl, hm, by simpa using hz, hcell, hwz⟩⟩
  clear hA0 hval0
  refine (walk a0 len0 cap0 z0 a1 len1 cap1 z1 W w0 w1).mono fun e W' ⟨he, bel⟩ => ?_
  subst he
  exact ⟨_, rfl, _, _, _, [], _, [], hW', trodAll_mk1 (shut_bool Try.underlying4 _), (trodAll_cons_mk (Below.trod laidOut (by kernel_rfl) (of_decide_eq_true (by kernel_rfl)) k0 bel lt0) (trodAll_cons_mk (Below.trod laidOut (by kernel_rfl) (of_decide_eq_true (by kernel_rfl)) k1 bel lt1) trodAll_mk0)), rfl, bel.frame _, fun h => by cases h⟩

theorem over : Rows.fnBlocksRow.holds Try.pinned (OpenSpec.ofChange Rows.fnBlocksSpec) :=
  OpenClaim.holds_of_wide 3 Try.f3 rfl rfl rfl rfl rfl rfl rfl ⟨rfl, rfl, rfl, rfl, rfl⟩ rfl rfl rfl rfl rfl (by kernel_rfl) Try.func3 (by kernel_rfl)
    (of_decide_eq_true (by kernel_rfl)) (by unfold Func.isWrapper; rw [if_neg (by decide +kernel)]; exact ⟨rfl, rfl⟩)
    (fun os started H enc _ => lifted os started H enc)
end Go.Proofs.Ythbakjnojjkmmaa.fnBlocks
namespace Go.Proofs.Ythbakjnojjkmmaa
theorem fnBlocks_holds : Rows.FnBlocksSaid := fnBlocks.over
end Go.Proofs.Ythbakjnojjkmmaa
