/- LawLinkPolicy, one behind the other. -/
import Derived.Test.YtcajlndbaipcaaaRows
import Derived.Test.YtcajlndbaipcaaaJ29
import Derived.WalkKit
import Derived.ProofKit
import Derived.OpenShut
import Derived.ShutString
import Derived.ChangeOld
import Derived.Below
import Derived.Lib.SmallJoins
/- The row of laws.FnExactLinkPolicy: its walk, then the row's step. -/
namespace Go.Proofs.Ytcajlndbaipcaaa.fnExactLinkPolicy
open Go.ChangeShapes Go.WideShapes Go.ChangeAt Go.RowKit Go.Joins
open Go.ChangeMaps (open_string shut_string)
set_option linter.unusedVariables false

theorem own : ownKnob Try.prog.godebug = none := by kernel_rfl
theorem laidOut : laidOutB Try.prog = true := by kernel_rfl

open V in
set_option linter.unusedSimpArgs false in
set_option maxRecDepth 40000 in
set_option maxHeartbeats 8000000 in
theorem walk (P : V.PolT) (a : Option Addr) (len cap : Nat) (id : ByteArray) (pr re : V.AtomT) (w : World) (ho : P.Ok) (hs : V.SlExpr w a len P.wh) (hl : len ≤ maxLen) (hid : id.size ≤ maxLen) (hpr : pr.Ok) (hre : re.Ok) :
    Calls Try.prog 3 #[V.polAgg P (.slice a len cap), .string id, V.encA pr, V.encA re] w fun e w' => e = .returned (.bool true) ∧ Below w.heap.size w w' := by
  have qz := hide (fun q w h0 h1 hs => szPolicy_any P a len cap q w h0 h1 ho hl hs)
  have qt := hide (fun w g1 hs => toPolicy_any P a len cap w g1 hs)
  have qzp := hide (fun l w h0 h1 => szAtom_any pr.x pr.n l pr.t pr.y w h0 h1 hpr.t9 hpr.y9)
  have qzr := hide (fun l w h0 h1 => szAtom_any re.x re.n l re.t re.y w h0 h1 hre.t9 hre.y9)
  have qtp := hide (fun w => toAtom_any pr.x pr.n pr.t pr.y w)
  have qtr := hide (fun w => toAtom_any re.x re.n re.t re.y w)
  have HS := hide hs
  have HO := hide ho
  have HP := hide hpr
  have HQ := hide hre
  have HI := hide hid
  have ML := hide hl
  have hll := hide hs.1
  obtain ⟨W0, hW0⟩ : ∃ W, W = ((w.alloc (.cells (V.polRow P (.slice a len cap)) 28)).alloc (.cells #[.int .i64 pr.x, .int .i64 pr.n, .string pr.t, .string pr.y] 23)).alloc (.cells #[.int .i64 re.x, .int .i64 re.n, .string re.t, .string re.y] 23) := ⟨_, rfl⟩
  have B : Hid (Below w.heap.size w W0) := hide (by rw [hW0]; exact bAl (bAl (bAl (Below.refl _ _) _) _) _)
  have Q3 : Hid (V.H3 P (.slice a len cap) pr re w.heap.size W0) := hide ⟨by rw [hW0]; exact ((V.RowIs.new w _ _).keep (bAl (Below.refl _ _) _)).keep (bAl (Below.refl _ _) _), by rw [hW0]; have := (V.RowIs.new (w.alloc (.cells (V.polRow P (.slice a len cap)) 28)) #[.int .i64 pr.x, .int .i64 pr.n, .string pr.t, .string pr.y] 23).keep (bAl (Below.refl _ _) (.cells #[.int .i64 re.x, .int .i64 re.n, .string re.t, .string re.y] 23)); simpa using this, by rw [hW0]; have := V.RowIs.new ((w.alloc (.cells (V.polRow P (.slice a len cap)) 28)).alloc (.cells #[.int .i64 pr.x, .int .i64 pr.n, .string pr.t, .string pr.y] 23)) #[.int .i64 re.x, .int .i64 re.n, .string re.t, .string re.y] 23; simpa using this⟩
  have HW := hide hW0.symm
  have zW : Hid (w.heap.size + 3 ≤ W0.heap.size) := hide (by rw [hW0]; simp)
  clear hs ho hl hpr hre hid hW0
  unfold V.encA
  by_cases hi : 1048576 < id.size
  · have di : decide ((1048576 : Int) < (id.size : Int)) = true := by simp; omega
    go_enter Try.func3, Try.ntmps3
    go_wp2_with fail
    go_ret
    exact ⟨rfl, bAl (bAl (bAl (Below.refl _ _) _) _) _⟩
  have di : decide ((1048576 : Int) < (id.size : Int)) = false := by simp; omega
  go_enter Try.func3, Try.ntmps3
  go_upto_region 4 with fail
  rw [unhide HW]
  go_step
  refine wpList_load_row rfl 28 _ rfl _ rfl 28 _ (0, 0) _ (unhide Q3).p Try.underlying28 rfl (by kernel_rfl) ?_
  go_wp2_with fail
  refine (unhide qz _ _ (by omega) (by omega) ((unhide HS).keep (unhide B))).mono ?_
  rintro e w1 ⟨⟨m, hm1, hm2, hm3, rfl⟩, hb1⟩
  replace Q3 := hide ((unhide Q3).keep hb1)
  replace zW := hide (Nat.le_trans (unhide zW) hb1.size)
  replace B := hide (bTr (unhide B) hb1)
  clear hb1 qz HW di hi
  by_cases hm : m < 0
  · go_wp2_with fail
    go_ret
    exact ⟨rfl, unhide B⟩
  have g1 : len ≤ 1048576 := by omega
  have HX : Hid (∀ q ∈ P.wh, V.OkX q) := hide (fun q hq => by
    refine ⟨(unhide HO).wh q hq, ?_⟩
    obtain ⟨i, hi, rfl⟩ := List.getElem_of_mem hq
    have := (hm3 (by omega)).2 i hi (by have := unhide hll; omega)
    omega)
  have QT := hide (fun w hs => unhide qt w g1 hs)
  clear qt hm3
  have c0 := (unhide Q3).r.at (o := 0) (v := .int .i64 pr.x) rfl
  have c1 := (unhide Q3).r.at (o := 1) (v := .int .i64 pr.n) rfl
  have c2 := (unhide Q3).r.at (o := 2) (v := .string pr.t) rfl
  have c3 := (unhide Q3).r.at (o := 3) (v := .string pr.y) rfl
  go_wp2_with fail
  refine (unhide qzp _ _ (by omega) (by omega)).mono ?_
  rintro e w2 ⟨⟨m2, hm3, hm4, rfl⟩, hb2⟩
  replace Q3 := hide ((unhide Q3).keep hb2)
  replace zW := hide (Nat.le_trans (unhide zW) hb2.size)
  replace B := hide (bTr (unhide B) hb2)
  clear hb2 qzp c0 c1 c2 c3
  by_cases hlt2 : m2 < 0
  · go_wp2_with fail
    go_ret
    exact ⟨rfl, unhide B⟩
  have c0 := (unhide Q3).q.at (o := 0) (v := .int .i64 re.x) rfl
  have c1 := (unhide Q3).q.at (o := 1) (v := .int .i64 re.n) rfl
  have c2 := (unhide Q3).q.at (o := 2) (v := .string re.t) rfl
  have c3 := (unhide Q3).q.at (o := 3) (v := .string re.y) rfl
  go_wp2_with fail
  refine (unhide qzr _ _ (by omega) (by omega)).mono ?_
  rintro e w3 ⟨⟨m3, hm5, hm6, rfl⟩, hb3⟩
  replace Q3 := hide ((unhide Q3).keep hb3)
  replace zW := hide (Nat.le_trans (unhide zW) hb3.size)
  replace B := hide (bTr (unhide B) hb3)
  clear hb3 qzr c0 c1 c2 c3
  by_cases hlt3 : m3 < 0
  · go_wp2_with fail
    go_ret
    exact ⟨rfl, unhide B⟩
  obtain ⟨LP, hLP⟩ : ∃ L, L = V.lkP P id pr re := ⟨_, rfl⟩
  obtain ⟨ok, hok⟩ : ∃ k, k = V.lkB P id pr re := ⟨_, rfl⟩
  have hLn : LP.wh.length ≤ 1048576 := by rw [hLP]; exact Nat.le_trans (V.lkP_len P id pr re) (by rw [← unhide hll]; exact g1)
  have qs := hide (show ∀ (b : Nat) (w : World), V.SlExpr w (some ⟨b, 0, none⟩) len P.wh → Calls Try.prog 6 #[V.polAgg P (.slice (some ⟨b, 0, none⟩) len len), .string id, .agg #[.int .i64 pr.x, .int .i64 pr.n, .string pr.t, .string pr.y], .agg #[.int .i64 re.x, .int .i64 re.n, .string re.t, .string re.y]] w fun e w' => (∃ v, e = .returned (.tuple #[V.polAgg LP v, .bool ok]) ∧ w'.ownsRow w.heap.size 56 7 v LP.wh.length (V.ExprsV LP.wh)) ∧ Below w.heap.size w w' from fun b w hs => by rw [hLP, hok]; exact (V.sLinkPolicy_any P ⟨b, 0, none⟩ len len id pr re w (unhide HO) (unhide HX) (unhide HI) (unhide HP) (unhide HQ) g1 hs).mono fun _ _ ⟨h, k⟩ => ⟨h.uni (unhide hll), k⟩)
  have qi := hide (show ∀ (b : Nat) (w : World), V.SlExpr w (some ⟨b, 0, none⟩) len P.wh → Calls Try.prog 9 #[V.polAgg P (.slice (some ⟨b, 0, none⟩) len len), .string id, .agg #[.int .i64 pr.x, .int .i64 pr.n, .string pr.t, .string pr.y], .agg #[.int .i64 re.x, .int .i64 re.n, .string re.t, .string re.y]] w fun e w' => (∃ v, e = .returned (.tuple #[V.polAgg LP v, .bool ok]) ∧ w'.ownsRow w.heap.size 56 7 v LP.wh.length (V.ExprsV LP.wh)) ∧ Below w.heap.size w w' from fun b w hs => by rw [hLP, hok]; exact (V.iLinkPolicy_any P ⟨b, 0, none⟩ len len id pr re w (unhide HO) (unhide HI) (unhide HP) (unhide HQ) g1 (Nat.le_refl _) hs).mono fun _ _ ⟨h, k⟩ => ⟨h.uni (unhide hll), k⟩)
  clear hLP hok HX HO HI HP HQ hm1 hm2 hm3 hm4 hm5 hm6 hm hlt2

  go_wp2_with fail
  clear hlt3
  go_cut [10, 11] from 20 (fun p c wx => ∃ (bx : Nat) (av : Option Addr) (cv : Nat), p = .pointer (some ⟨bx, 0, none⟩) ∧ c = .bool ok ∧ Hid (V.MadeP wx w3.heap.size LP bx (.slice av LP.wh.length cv)) ∧ Hid (Below w3.heap.size w3 wx))
  case first =>
    have BB : Hid (Below w3.heap.size w3 w3.drew) := hide (Below.refl _ _).drew
    refine wp_region_held_drew (S := (V.H3 P (.slice a len cap) pr re w.heap.size)) (by kernel_rfl) (by exact (unhide Q3).keep (unhide BB)) (fun hHeld => ?_)
    refine wpAnyH_take (i := 0) (oi := { dst := some 39, op := Op.load 28 (Operand.tmp 4), type := 28, pos := "exact.go:9071", after := #[], guard := none }) (v := .agg (V.polRow P (.slice a len cap))) rfl (by kernel_rfl) (by kernel_rfl) (by kernel_rfl) (fun _ _ _ h => h) (V.yields_row (by rfl) 28 _ rfl w.heap.size rfl 28 _ _ (fun w h => h.p) Try.underlying28 rfl (by kernel_rfl)) (by assumption) ?_
    simp only [Act.put, List.setIfInBounds_toArray, List.set_cons_zero, List.set_cons_succ]
    refine wpAnyH_take (i := 2) (oi := { dst := some 41, op := Op.move (Operand.tmp 1), type := 9, pos := "exact.go:9071", after := #[], guard := none }) (v := .string id) rfl (by kernel_rfl) (by kernel_rfl) (by kernel_rfl) (fun _ _ _ h => h) (Or.inl ⟨by rfl, (by intro w hSw; (try go_simp); (try with_reducible rfl))⟩) (by assumption) ?_
    simp only [Act.put, List.setIfInBounds_toArray, List.set_cons_zero, List.set_cons_succ]
    refine wpAnyH_take (i := 3) (oi := { dst := some 42, op := Op.load 23 (Operand.tmp 6), type := 23, pos := "exact.go:9071", after := #[], guard := none }) (v := .agg #[.int .i64 pr.x, .int .i64 pr.n, .string pr.t, .string pr.y]) rfl (by kernel_rfl) (by kernel_rfl) (by kernel_rfl) (fun _ _ _ h => h) (V.yields_row (by rfl) 23 _ rfl (w.heap.size + 1) rfl 23 _ _ (fun w h => h.r) Try.underlying23 rfl (by kernel_rfl)) (by assumption) ?_
    simp only [Act.put, List.setIfInBounds_toArray, List.set_cons_zero, List.set_cons_succ]
    refine wpAnyH_take (i := 5) (oi := { dst := some 44, op := Op.load 23 (Operand.tmp 7), type := 23, pos := "exact.go:9071", after := #[], guard := none }) (v := .agg #[.int .i64 re.x, .int .i64 re.n, .string re.t, .string re.y]) rfl (by kernel_rfl) (by kernel_rfl) (by kernel_rfl) (fun _ _ _ h => h) (V.yields_row (by rfl) 23 _ rfl (w.heap.size + 1 + 1) rfl 23 _ _ (fun w h => h.q) Try.underlying23 rfl (by kernel_rfl)) (by assumption) ?_
    simp only [Act.put, List.setIfInBounds_toArray, List.set_cons_zero, List.set_cons_succ]
    refine wpAnyH_ready (rs := [1, 11]) (by kernel_rfl) (by simp) ?_
    refine AllReadyH.cons (o := { dst := some 40, op := Op.call { callee := Callee.value (Operand.func 7), args := #[Operand.tmp 39], argTypes := #[28] }, type := 36, pos := "exact.go:9071", after := #[{ on := 0, ground := Ground.data }], guard := none }) rfl (fun K hK => ?_) (AllReadyH.cons (o := { dst := some 10, op := Op.alloc 36, type := 0, pos := "exact.go:9071", after := #[], guard := none }) rfl (fun K hK => ?_) AllReadyH.nil)
    focus
      refine V.step_call1 _ (by rfl) 7 _ _ (by rfl) (V.polAgg P (.slice a len cap)) (by rfl) V.ent_toPolicy (unhide QT _ ((unhide HS).keep (bTr (unhide B) (unhide BB)))) ?_
      rintro e x1 ⟨b2, rfl, _, ⟨_, _, _, r2⟩, hb⟩
      have SE : Hid (V.SlExpr x1 (some ⟨b2, 0, none⟩) len P.wh) := hide ⟨unhide hll, .inr ⟨b2, 0, rfl, r2⟩⟩
      replace BB := hide (bTr (unhide BB) hb)
      clear hb r2
      clear hHeld
      refine ⟨_, rfl, ?_⟩
      refine hK.out _ _ (by exact (unhide Q3).keep (unhide BB)) (fun hHeld2 => ?_)
      clear hK
      simp only [Act.put, List.setIfInBounds_toArray, List.set_cons_zero, List.set_cons_succ]
      refine wpAnyH_ready (rs := [4, 11]) (by kernel_rfl) (by simp) ?_
      refine AllReadyH.cons (o := { dst := some 43, op := Op.call { callee := Callee.value (Operand.func 8), args := #[Operand.tmp 42], argTypes := #[23] }, type := 31, pos := "exact.go:9071", after := #[{ on := 3, ground := Ground.data }, { on := 1, ground := Ground.chain }], guard := none }) rfl (fun K hK => ?_) (AllReadyH.cons (o := { dst := some 10, op := Op.alloc 36, type := 0, pos := "exact.go:9071", after := #[], guard := none }) rfl (fun K hK => ?_) AllReadyH.nil)
      focus
        refine V.step_call1 _ (by rfl) 8 _ _ (by rfl) (.agg #[.int .i64 pr.x, .int .i64 pr.n, .string pr.t, .string pr.y]) (by rfl) V.ent_toAtom (unhide qtp _) ?_
        rintro e x2 ⟨rfl, hb⟩
        replace SE := hide ((unhide SE).keep hb)
        replace BB := hide (bTr (unhide BB) hb)
        clear hb
        clear hHeld2
        refine ⟨_, rfl, ?_⟩
        refine hK.out _ _ (by exact (unhide Q3).keep (unhide BB)) (fun hHeld2 => ?_)
        clear hK
        simp only [Act.put, List.setIfInBounds_toArray, List.set_cons_zero, List.set_cons_succ]
        refine wpAnyH_ready (rs := [6, 11]) (by kernel_rfl) (by simp) ?_
        refine AllReadyH.cons (o := { dst := some 45, op := Op.call { callee := Callee.value (Operand.func 8), args := #[Operand.tmp 44], argTypes := #[23] }, type := 31, pos := "exact.go:9071", after := #[{ on := 5, ground := Ground.data }, { on := 4, ground := Ground.chain }], guard := none }) rfl (fun K hK => ?_) (AllReadyH.cons (o := { dst := some 10, op := Op.alloc 36, type := 0, pos := "exact.go:9071", after := #[], guard := none }) rfl (fun K hK => ?_) AllReadyH.nil)
        focus
          refine V.step_call1 _ (by rfl) 8 _ _ (by rfl) (.agg #[.int .i64 re.x, .int .i64 re.n, .string re.t, .string re.y]) (by rfl) V.ent_toAtom (unhide qtr _) ?_
          rintro e x3 ⟨rfl, hb⟩
          replace SE := hide ((unhide SE).keep hb)
          replace BB := hide (bTr (unhide BB) hb)
          clear hb
          clear hHeld2
          refine ⟨_, rfl, ?_⟩
          refine hK.out _ _ (by exact (unhide Q3).keep (unhide BB)) (fun hHeld2 => ?_)
          clear hK
          simp only [Act.put, List.setIfInBounds_toArray, List.set_cons_zero, List.set_cons_succ]
          refine wpAnyH_ready (rs := [7, 11]) (by kernel_rfl) (by simp) ?_
          refine AllReadyH.cons (o := { dst := some 46, op := Op.call { callee := Callee.value (Operand.func 6), args := #[Operand.tmp 40, Operand.tmp 41, Operand.tmp 43, Operand.tmp 45], argTypes := #[36, 9, 31, 31] }, type := 37, pos := "exact.go:9071", after := #[{ on := 1, ground := Ground.data }, { on := 2, ground := Ground.data }, { on := 4, ground := Ground.data }, { on := 6, ground := Ground.data }, { on := 6, ground := Ground.chain }], guard := none }) rfl (fun K hK => ?_) (AllReadyH.cons (o := { dst := some 10, op := Op.alloc 36, type := 0, pos := "exact.go:9071", after := #[], guard := none }) rfl (fun K hK => ?_) AllReadyH.nil)
          focus
            refine V.step_call4 _ (by rfl) 6 _ _ _ _ _ (by rfl) (V.polAgg P (.slice (some ⟨b2, 0, none⟩) len len)) (.string id) (.agg #[.int .i64 pr.x, .int .i64 pr.n, .string pr.t, .string pr.y]) (.agg #[.int .i64 re.x, .int .i64 re.n, .string re.t, .string re.y]) (by rfl) (by rfl) (by rfl) (by rfl) V.ent_spec (unhide qs b2 _ (unhide SE)) ?_
            rintro e x4 ⟨⟨v, rfl, ov⟩, hb⟩
            obtain ⟨av, cv, rfl, _⟩ := V.own_Expr ov
            have OV := hide (V.own_loY ov (unhide BB).size)
            replace BB := hide (bTr (unhide BB) hb)
            clear hb ov
            clear hHeld2
            refine ⟨_, rfl, ?_⟩
            refine hK.out _ _ (by exact (unhide Q3).keep (unhide BB)) (fun hHeld2 => ?_)
            clear hK
            simp only [Act.put, List.setIfInBounds_toArray, List.set_cons_zero, List.set_cons_succ]
            refine wpAnyH_take (i := 8) (oi := { dst := some 38, op := Op.move (Operand.tmp 46), type := 37, pos := "exact.go:9071", after := #[{ on := 7, ground := Ground.data }], guard := none }) (v := .tuple #[V.polAgg LP (.slice av LP.wh.length cv), .bool ok]) rfl (by kernel_rfl) (by kernel_rfl) (by kernel_rfl) (fun _ _ _ h => h) (Or.inl ⟨by rfl, (by intro w hSw; (try go_simp); (try with_reducible rfl))⟩) (by assumption) ?_
            simp only [Act.put, List.setIfInBounds_toArray, List.set_cons_zero, List.set_cons_succ]
            refine wpAnyH_take (i := 9) (oi := { dst := some 47, op := Op.extract (Operand.tmp 38) 0, type := 36, pos := "exact.go:9071", after := #[{ on := 8, ground := Ground.data }], guard := none }) (v := V.polAgg LP (.slice av LP.wh.length cv)) rfl (by kernel_rfl) (by kernel_rfl) (by kernel_rfl) (fun _ _ _ h => h) (Or.inl ⟨by rfl, (by intro w hSw; (try go_simp); (try with_reducible rfl))⟩) (by assumption) ?_
            simp only [Act.put, List.setIfInBounds_toArray, List.set_cons_zero, List.set_cons_succ]
            refine wpAnyH_take (i := 10) (oi := { dst := some 48, op := Op.extract (Operand.tmp 38) 1, type := 4, pos := "exact.go:9071", after := #[{ on := 8, ground := Ground.data }, { on := 12, ground := Ground.gcOnly Departure.lateStores }], guard := none }) (v := .bool ok) rfl (by kernel_rfl) (by kernel_rfl) (by kernel_rfl) (fun _ _ _ h => h) (Or.inl ⟨by rfl, (by intro w hSw; (try go_simp); (try with_reducible rfl))⟩) (by assumption) ?_
            simp only [Act.put, List.setIfInBounds_toArray, List.set_cons_zero, List.set_cons_succ]
            refine wpAnyH_ready (rs := [11]) (by kernel_rfl) (by simp) ?_
            refine AllReadyH.cons (o := { dst := some 10, op := Op.alloc 36, type := 0, pos := "exact.go:9071", after := #[], guard := none }) rfl (fun K hK => ?_) AllReadyH.nil
            have NE : Hid (∀ g, (Value.slice av LP.wh.length cv).ownBlock = some g → g ≠ x4.heap.size) := hide (fun g e => Nat.ne_of_lt ((unhide OV).lt g e).2)
            rw [if_pos (by rfl)]
            have HK := hide hK
            clear hK hHeld2
            go_wp2_with fail
            have zB : Hid (w3.heap.size ≤ x4.heap.size) := hide (unhide BB).size
            have BX := hide (V.RowIs.new x4 #[.string ⟨#[]⟩, .bool false, .int .i64 0, .int .i64 0, .int .i64 0, .string ⟨#[]⟩, .string ⟨#[]⟩, .string ⟨#[]⟩, .int .i64 0, .int .i64 0, .int .i64 0, .string ⟨#[]⟩, .string ⟨#[]⟩, .string ⟨#[]⟩, .int .i64 0, .int .i64 0, .int .i64 0, .string ⟨#[]⟩, .string ⟨#[]⟩, .string ⟨#[]⟩, .slice none 0 0] 36)
            replace BB := hide (bTr (unhide BB) (bAl (Below.refl _ _) (.cells #[.string ⟨#[]⟩, .bool false, .int .i64 0, .int .i64 0, .int .i64 0, .string ⟨#[]⟩, .string ⟨#[]⟩, .string ⟨#[]⟩, .int .i64 0, .int .i64 0, .int .i64 0, .string ⟨#[]⟩, .string ⟨#[]⟩, .string ⟨#[]⟩, .int .i64 0, .int .i64 0, .int .i64 0, .string ⟨#[]⟩, .string ⟨#[]⟩, .string ⟨#[]⟩, .slice none 0 0] 36)))
            try replace SE := hide ((unhide SE).keep (bAl (Below.refl _ _) (.cells #[.string ⟨#[]⟩, .bool false, .int .i64 0, .int .i64 0, .int .i64 0, .string ⟨#[]⟩, .string ⟨#[]⟩, .string ⟨#[]⟩, .int .i64 0, .int .i64 0, .int .i64 0, .string ⟨#[]⟩, .string ⟨#[]⟩, .string ⟨#[]⟩, .int .i64 0, .int .i64 0, .int .i64 0, .string ⟨#[]⟩, .string ⟨#[]⟩, .string ⟨#[]⟩, .slice none 0 0] 36)))
            try replace OV := hide (V.own_keepY (unhide OV) (bAl (Below.refl _ _) (.cells #[.string ⟨#[]⟩, .bool false, .int .i64 0, .int .i64 0, .int .i64 0, .string ⟨#[]⟩, .string ⟨#[]⟩, .string ⟨#[]⟩, .int .i64 0, .int .i64 0, .int .i64 0, .string ⟨#[]⟩, .string ⟨#[]⟩, .string ⟨#[]⟩, .int .i64 0, .int .i64 0, .int .i64 0, .string ⟨#[]⟩, .string ⟨#[]⟩, .string ⟨#[]⟩, .slice none 0 0] 36)))
            refine (unhide HK).out _ _ (by exact (unhide Q3).keep (unhide BB)) (fun hHeld2 => ?_)
            clear HK
            try simp only [Act.put, List.setIfInBounds_toArray, List.set_cons_zero, List.set_cons_succ]
            refine wpAnyH_ready (rs := [12]) (by kernel_rfl) (by simp) ?_
            refine AllReadyH.cons (o := { dst := none, op := Op.store 36 (Operand.tmp 10) (Operand.tmp 47), type := 0, pos := "exact.go:9071", after := #[{ on := 11, ground := Ground.data }, { on := 9, ground := Ground.data }, { on := 7, ground := Ground.chain }, { on := 0, ground := Ground.phase }, { on := 1, ground := Ground.phase }, { on := 2, ground := Ground.phase }, { on := 3, ground := Ground.phase }, { on := 4, ground := Ground.phase }, { on := 5, ground := Ground.phase }, { on := 6, ground := Ground.phase }, { on := 7, ground := Ground.phase }, { on := 8, ground := Ground.phase }, { on := 9, ground := Ground.phase }, { on := 10, ground := Ground.textOnly Departure.lateStores }, { on := 11, ground := Ground.phase }], guard := none }) rfl (fun K hK => ?_) AllReadyH.nil
            rw [if_pos (by rfl)]
            refine wp_store_row 36 _ _ rfl (x4.heap.size) (V.polRow LP (.slice av LP.wh.length cv)) rfl rfl 36 _ (unhide BX) (by kernel_rfl) rfl (by simp [Value.oneCell']) ?_
            have MP := hide (V.MadeP.made (L := LP) (unhide BX) (unhide OV) (unhide zB) (unhide NE))
            replace BB := hide (V.bRow (unhide BB) (unhide zB) (V.polRow LP (.slice av LP.wh.length cv)))
            clear hHeld2
            refine hK.out _ _ (by exact (unhide Q3).keep (unhide BB)) (fun hHeld2 => ?_)
            clear hK
            simp only [Act.put, List.setIfInBounds_toArray, List.set_cons_zero, List.set_cons_succ]
            refine wpAnyH_ready (rs := [13]) (by kernel_rfl) (by simp) ?_
            refine AllReadyH.cons (o := { dst := some 11, op := Op.assign (Operand.tmp 48), type := 4, pos := "exact.go:9071", after := #[{ on := 10, ground := Ground.data }, { on := 12, ground := Ground.chain }, { on := 0, ground := Ground.phase }, { on := 1, ground := Ground.phase }, { on := 2, ground := Ground.phase }, { on := 3, ground := Ground.phase }, { on := 4, ground := Ground.phase }, { on := 5, ground := Ground.phase }, { on := 6, ground := Ground.phase }, { on := 7, ground := Ground.phase }, { on := 8, ground := Ground.phase }, { on := 9, ground := Ground.phase }, { on := 10, ground := Ground.phase }, { on := 11, ground := Ground.phase }, { on := 12, ground := Ground.phase }], guard := none }) rfl (fun K hK => ?_) AllReadyH.nil
            rw [if_pos (by rfl)]
            have HK := hide hK
            clear hK hHeld2
            go_wp2_with fail
            refine (unhide HK).out _ _ (by exact (unhide Q3).keep (unhide BB)) (fun hHeld3 => ?_)
            clear HK hHeld3
            refine wpAnyH_done (by kernel_rfl) ?_ _
            go_wp2_with fail
            go_meet
            case rel => exact ⟨x4.heap.size, av, cv, rfl, rfl, MP, BB⟩
          rw [if_pos (by rfl)]
          have HK := hide hK
          clear hK hHeld2
          go_wp2_with fail
          have zB : Hid (w3.heap.size ≤ x3.heap.size) := hide (unhide BB).size
          have BX := hide (V.RowIs.new x3 #[.string ⟨#[]⟩, .bool false, .int .i64 0, .int .i64 0, .int .i64 0, .string ⟨#[]⟩, .string ⟨#[]⟩, .string ⟨#[]⟩, .int .i64 0, .int .i64 0, .int .i64 0, .string ⟨#[]⟩, .string ⟨#[]⟩, .string ⟨#[]⟩, .int .i64 0, .int .i64 0, .int .i64 0, .string ⟨#[]⟩, .string ⟨#[]⟩, .string ⟨#[]⟩, .slice none 0 0] 36)
          replace BB := hide (bTr (unhide BB) (bAl (Below.refl _ _) (.cells #[.string ⟨#[]⟩, .bool false, .int .i64 0, .int .i64 0, .int .i64 0, .string ⟨#[]⟩, .string ⟨#[]⟩, .string ⟨#[]⟩, .int .i64 0, .int .i64 0, .int .i64 0, .string ⟨#[]⟩, .string ⟨#[]⟩, .string ⟨#[]⟩, .int .i64 0, .int .i64 0, .int .i64 0, .string ⟨#[]⟩, .string ⟨#[]⟩, .string ⟨#[]⟩, .slice none 0 0] 36)))
          try replace SE := hide ((unhide SE).keep (bAl (Below.refl _ _) (.cells #[.string ⟨#[]⟩, .bool false, .int .i64 0, .int .i64 0, .int .i64 0, .string ⟨#[]⟩, .string ⟨#[]⟩, .string ⟨#[]⟩, .int .i64 0, .int .i64 0, .int .i64 0, .string ⟨#[]⟩, .string ⟨#[]⟩, .string ⟨#[]⟩, .int .i64 0, .int .i64 0, .int .i64 0, .string ⟨#[]⟩, .string ⟨#[]⟩, .string ⟨#[]⟩, .slice none 0 0] 36)))
          try replace OV := hide (V.own_keepY (unhide OV) (bAl (Below.refl _ _) (.cells #[.string ⟨#[]⟩, .bool false, .int .i64 0, .int .i64 0, .int .i64 0, .string ⟨#[]⟩, .string ⟨#[]⟩, .string ⟨#[]⟩, .int .i64 0, .int .i64 0, .int .i64 0, .string ⟨#[]⟩, .string ⟨#[]⟩, .string ⟨#[]⟩, .int .i64 0, .int .i64 0, .int .i64 0, .string ⟨#[]⟩, .string ⟨#[]⟩, .string ⟨#[]⟩, .slice none 0 0] 36)))
          refine (unhide HK).out _ _ (by exact (unhide Q3).keep (unhide BB)) (fun hHeld2 => ?_)
          clear HK
          try simp only [Act.put, List.setIfInBounds_toArray, List.set_cons_zero, List.set_cons_succ]
          refine wpAnyH_ready (rs := [7]) (by kernel_rfl) (by simp) ?_
          refine AllReadyH.cons (o := { dst := some 46, op := Op.call { callee := Callee.value (Operand.func 6), args := #[Operand.tmp 40, Operand.tmp 41, Operand.tmp 43, Operand.tmp 45], argTypes := #[36, 9, 31, 31] }, type := 37, pos := "exact.go:9071", after := #[{ on := 1, ground := Ground.data }, { on := 2, ground := Ground.data }, { on := 4, ground := Ground.data }, { on := 6, ground := Ground.data }, { on := 6, ground := Ground.chain }], guard := none }) rfl (fun K hK => ?_) AllReadyH.nil
          refine V.step_call4 _ (by rfl) 6 _ _ _ _ _ (by rfl) (V.polAgg P (.slice (some ⟨b2, 0, none⟩) len len)) (.string id) (.agg #[.int .i64 pr.x, .int .i64 pr.n, .string pr.t, .string pr.y]) (.agg #[.int .i64 re.x, .int .i64 re.n, .string re.t, .string re.y]) (by rfl) (by rfl) (by rfl) (by rfl) V.ent_spec (unhide qs b2 _ (unhide SE)) ?_
          rintro e x5 ⟨⟨v, rfl, ov⟩, hb⟩
          obtain ⟨av, cv, rfl, _⟩ := V.own_Expr ov
          have OV := hide (V.own_loY ov (unhide BB).size)
          have NE : Hid (∀ g, (Value.slice av LP.wh.length cv).ownBlock = some g → g ≠ x3.heap.size) := hide (fun g e => by have h1 := (ov.lt g e).1; have h2 := (unhide BX).lt; omega)
          replace BX := hide ((unhide BX).keep hb)
          replace BB := hide (bTr (unhide BB) hb)
          clear hb ov
          clear hHeld2
          refine ⟨_, rfl, ?_⟩
          refine hK.out _ _ (by exact (unhide Q3).keep (unhide BB)) (fun hHeld2 => ?_)
          clear hK
          simp only [Act.put, List.setIfInBounds_toArray, List.set_cons_zero, List.set_cons_succ]
          refine wpAnyH_take (i := 8) (oi := { dst := some 38, op := Op.move (Operand.tmp 46), type := 37, pos := "exact.go:9071", after := #[{ on := 7, ground := Ground.data }], guard := none }) (v := .tuple #[V.polAgg LP (.slice av LP.wh.length cv), .bool ok]) rfl (by kernel_rfl) (by kernel_rfl) (by kernel_rfl) (fun _ _ _ h => h) (Or.inl ⟨by rfl, (by intro w hSw; (try go_simp); (try with_reducible rfl))⟩) (by assumption) ?_
          simp only [Act.put, List.setIfInBounds_toArray, List.set_cons_zero, List.set_cons_succ]
          refine wpAnyH_take (i := 9) (oi := { dst := some 47, op := Op.extract (Operand.tmp 38) 0, type := 36, pos := "exact.go:9071", after := #[{ on := 8, ground := Ground.data }], guard := none }) (v := V.polAgg LP (.slice av LP.wh.length cv)) rfl (by kernel_rfl) (by kernel_rfl) (by kernel_rfl) (fun _ _ _ h => h) (Or.inl ⟨by rfl, (by intro w hSw; (try go_simp); (try with_reducible rfl))⟩) (by assumption) ?_
          simp only [Act.put, List.setIfInBounds_toArray, List.set_cons_zero, List.set_cons_succ]
          refine wpAnyH_take (i := 10) (oi := { dst := some 48, op := Op.extract (Operand.tmp 38) 1, type := 4, pos := "exact.go:9071", after := #[{ on := 8, ground := Ground.data }, { on := 12, ground := Ground.gcOnly Departure.lateStores }], guard := none }) (v := .bool ok) rfl (by kernel_rfl) (by kernel_rfl) (by kernel_rfl) (fun _ _ _ h => h) (Or.inl ⟨by rfl, (by intro w hSw; (try go_simp); (try with_reducible rfl))⟩) (by assumption) ?_
          simp only [Act.put, List.setIfInBounds_toArray, List.set_cons_zero, List.set_cons_succ]
          refine wpAnyH_ready (rs := [12]) (by kernel_rfl) (by simp) ?_
          refine AllReadyH.cons (o := { dst := none, op := Op.store 36 (Operand.tmp 10) (Operand.tmp 47), type := 0, pos := "exact.go:9071", after := #[{ on := 11, ground := Ground.data }, { on := 9, ground := Ground.data }, { on := 7, ground := Ground.chain }, { on := 0, ground := Ground.phase }, { on := 1, ground := Ground.phase }, { on := 2, ground := Ground.phase }, { on := 3, ground := Ground.phase }, { on := 4, ground := Ground.phase }, { on := 5, ground := Ground.phase }, { on := 6, ground := Ground.phase }, { on := 7, ground := Ground.phase }, { on := 8, ground := Ground.phase }, { on := 9, ground := Ground.phase }, { on := 10, ground := Ground.textOnly Departure.lateStores }, { on := 11, ground := Ground.phase }], guard := none }) rfl (fun K hK => ?_) AllReadyH.nil
          rw [if_pos (by rfl)]
          refine wp_store_row 36 _ _ rfl (x3.heap.size) (V.polRow LP (.slice av LP.wh.length cv)) rfl rfl 36 _ (unhide BX) (by kernel_rfl) rfl (by simp [Value.oneCell']) ?_
          have MP := hide (V.MadeP.made (L := LP) (unhide BX) (unhide OV) (unhide zB) (unhide NE))
          replace BB := hide (V.bRow (unhide BB) (unhide zB) (V.polRow LP (.slice av LP.wh.length cv)))
          clear hHeld2
          refine hK.out _ _ (by exact (unhide Q3).keep (unhide BB)) (fun hHeld2 => ?_)
          clear hK
          simp only [Act.put, List.setIfInBounds_toArray, List.set_cons_zero, List.set_cons_succ]
          refine wpAnyH_ready (rs := [13]) (by kernel_rfl) (by simp) ?_
          refine AllReadyH.cons (o := { dst := some 11, op := Op.assign (Operand.tmp 48), type := 4, pos := "exact.go:9071", after := #[{ on := 10, ground := Ground.data }, { on := 12, ground := Ground.chain }, { on := 0, ground := Ground.phase }, { on := 1, ground := Ground.phase }, { on := 2, ground := Ground.phase }, { on := 3, ground := Ground.phase }, { on := 4, ground := Ground.phase }, { on := 5, ground := Ground.phase }, { on := 6, ground := Ground.phase }, { on := 7, ground := Ground.phase }, { on := 8, ground := Ground.phase }, { on := 9, ground := Ground.phase }, { on := 10, ground := Ground.phase }, { on := 11, ground := Ground.phase }, { on := 12, ground := Ground.phase }], guard := none }) rfl (fun K hK => ?_) AllReadyH.nil
          rw [if_pos (by rfl)]
          have HK := hide hK
          clear hK hHeld2
          go_wp2_with fail
          refine (unhide HK).out _ _ (by exact (unhide Q3).keep (unhide BB)) (fun hHeld3 => ?_)
          clear HK hHeld3
          refine wpAnyH_done (by kernel_rfl) ?_ _
          go_wp2_with fail
          go_meet
          case rel => exact ⟨x3.heap.size, av, cv, rfl, rfl, MP, BB⟩
        rw [if_pos (by rfl)]
        have HK := hide hK
        clear hK hHeld2
        go_wp2_with fail
        have zB : Hid (w3.heap.size ≤ x2.heap.size) := hide (unhide BB).size
        have BX := hide (V.RowIs.new x2 #[.string ⟨#[]⟩, .bool false, .int .i64 0, .int .i64 0, .int .i64 0, .string ⟨#[]⟩, .string ⟨#[]⟩, .string ⟨#[]⟩, .int .i64 0, .int .i64 0, .int .i64 0, .string ⟨#[]⟩, .string ⟨#[]⟩, .string ⟨#[]⟩, .int .i64 0, .int .i64 0, .int .i64 0, .string ⟨#[]⟩, .string ⟨#[]⟩, .string ⟨#[]⟩, .slice none 0 0] 36)
        replace BB := hide (bTr (unhide BB) (bAl (Below.refl _ _) (.cells #[.string ⟨#[]⟩, .bool false, .int .i64 0, .int .i64 0, .int .i64 0, .string ⟨#[]⟩, .string ⟨#[]⟩, .string ⟨#[]⟩, .int .i64 0, .int .i64 0, .int .i64 0, .string ⟨#[]⟩, .string ⟨#[]⟩, .string ⟨#[]⟩, .int .i64 0, .int .i64 0, .int .i64 0, .string ⟨#[]⟩, .string ⟨#[]⟩, .string ⟨#[]⟩, .slice none 0 0] 36)))
        try replace SE := hide ((unhide SE).keep (bAl (Below.refl _ _) (.cells #[.string ⟨#[]⟩, .bool false, .int .i64 0, .int .i64 0, .int .i64 0, .string ⟨#[]⟩, .string ⟨#[]⟩, .string ⟨#[]⟩, .int .i64 0, .int .i64 0, .int .i64 0, .string ⟨#[]⟩, .string ⟨#[]⟩, .string ⟨#[]⟩, .int .i64 0, .int .i64 0, .int .i64 0, .string ⟨#[]⟩, .string ⟨#[]⟩, .string ⟨#[]⟩, .slice none 0 0] 36)))
        try replace OV := hide (V.own_keepY (unhide OV) (bAl (Below.refl _ _) (.cells #[.string ⟨#[]⟩, .bool false, .int .i64 0, .int .i64 0, .int .i64 0, .string ⟨#[]⟩, .string ⟨#[]⟩, .string ⟨#[]⟩, .int .i64 0, .int .i64 0, .int .i64 0, .string ⟨#[]⟩, .string ⟨#[]⟩, .string ⟨#[]⟩, .int .i64 0, .int .i64 0, .int .i64 0, .string ⟨#[]⟩, .string ⟨#[]⟩, .string ⟨#[]⟩, .slice none 0 0] 36)))
        refine (unhide HK).out _ _ (by exact (unhide Q3).keep (unhide BB)) (fun hHeld2 => ?_)
        clear HK
        try simp only [Act.put, List.setIfInBounds_toArray, List.set_cons_zero, List.set_cons_succ]
        refine wpAnyH_ready (rs := [6]) (by kernel_rfl) (by simp) ?_
        refine AllReadyH.cons (o := { dst := some 45, op := Op.call { callee := Callee.value (Operand.func 8), args := #[Operand.tmp 44], argTypes := #[23] }, type := 31, pos := "exact.go:9071", after := #[{ on := 5, ground := Ground.data }, { on := 4, ground := Ground.chain }], guard := none }) rfl (fun K hK => ?_) AllReadyH.nil
        refine V.step_call1 _ (by rfl) 8 _ _ (by rfl) (.agg #[.int .i64 re.x, .int .i64 re.n, .string re.t, .string re.y]) (by rfl) V.ent_toAtom (unhide qtr _) ?_
        rintro e x6 ⟨rfl, hb⟩
        replace BX := hide ((unhide BX).keep hb)
        replace SE := hide ((unhide SE).keep hb)
        replace BB := hide (bTr (unhide BB) hb)
        clear hb
        clear hHeld2
        refine ⟨_, rfl, ?_⟩
        refine hK.out _ _ (by exact (unhide Q3).keep (unhide BB)) (fun hHeld2 => ?_)
        clear hK
        simp only [Act.put, List.setIfInBounds_toArray, List.set_cons_zero, List.set_cons_succ]
        refine wpAnyH_ready (rs := [7]) (by kernel_rfl) (by simp) ?_
        refine AllReadyH.cons (o := { dst := some 46, op := Op.call { callee := Callee.value (Operand.func 6), args := #[Operand.tmp 40, Operand.tmp 41, Operand.tmp 43, Operand.tmp 45], argTypes := #[36, 9, 31, 31] }, type := 37, pos := "exact.go:9071", after := #[{ on := 1, ground := Ground.data }, { on := 2, ground := Ground.data }, { on := 4, ground := Ground.data }, { on := 6, ground := Ground.data }, { on := 6, ground := Ground.chain }], guard := none }) rfl (fun K hK => ?_) AllReadyH.nil
        refine V.step_call4 _ (by rfl) 6 _ _ _ _ _ (by rfl) (V.polAgg P (.slice (some ⟨b2, 0, none⟩) len len)) (.string id) (.agg #[.int .i64 pr.x, .int .i64 pr.n, .string pr.t, .string pr.y]) (.agg #[.int .i64 re.x, .int .i64 re.n, .string re.t, .string re.y]) (by rfl) (by rfl) (by rfl) (by rfl) V.ent_spec (unhide qs b2 _ (unhide SE)) ?_
        rintro e x7 ⟨⟨v, rfl, ov⟩, hb⟩
        obtain ⟨av, cv, rfl, _⟩ := V.own_Expr ov
        have OV := hide (V.own_loY ov (unhide BB).size)
        have NE : Hid (∀ g, (Value.slice av LP.wh.length cv).ownBlock = some g → g ≠ x2.heap.size) := hide (fun g e => by have h1 := (ov.lt g e).1; have h2 := (unhide BX).lt; omega)
        replace BX := hide ((unhide BX).keep hb)
        replace BB := hide (bTr (unhide BB) hb)
        clear hb ov
        clear hHeld2
        refine ⟨_, rfl, ?_⟩
        refine hK.out _ _ (by exact (unhide Q3).keep (unhide BB)) (fun hHeld2 => ?_)
        clear hK
        simp only [Act.put, List.setIfInBounds_toArray, List.set_cons_zero, List.set_cons_succ]
        refine wpAnyH_take (i := 8) (oi := { dst := some 38, op := Op.move (Operand.tmp 46), type := 37, pos := "exact.go:9071", after := #[{ on := 7, ground := Ground.data }], guard := none }) (v := .tuple #[V.polAgg LP (.slice av LP.wh.length cv), .bool ok]) rfl (by kernel_rfl) (by kernel_rfl) (by kernel_rfl) (fun _ _ _ h => h) (Or.inl ⟨by rfl, (by intro w hSw; (try go_simp); (try with_reducible rfl))⟩) (by assumption) ?_
        simp only [Act.put, List.setIfInBounds_toArray, List.set_cons_zero, List.set_cons_succ]
        refine wpAnyH_take (i := 9) (oi := { dst := some 47, op := Op.extract (Operand.tmp 38) 0, type := 36, pos := "exact.go:9071", after := #[{ on := 8, ground := Ground.data }], guard := none }) (v := V.polAgg LP (.slice av LP.wh.length cv)) rfl (by kernel_rfl) (by kernel_rfl) (by kernel_rfl) (fun _ _ _ h => h) (Or.inl ⟨by rfl, (by intro w hSw; (try go_simp); (try with_reducible rfl))⟩) (by assumption) ?_
        simp only [Act.put, List.setIfInBounds_toArray, List.set_cons_zero, List.set_cons_succ]
        refine wpAnyH_take (i := 10) (oi := { dst := some 48, op := Op.extract (Operand.tmp 38) 1, type := 4, pos := "exact.go:9071", after := #[{ on := 8, ground := Ground.data }, { on := 12, ground := Ground.gcOnly Departure.lateStores }], guard := none }) (v := .bool ok) rfl (by kernel_rfl) (by kernel_rfl) (by kernel_rfl) (fun _ _ _ h => h) (Or.inl ⟨by rfl, (by intro w hSw; (try go_simp); (try with_reducible rfl))⟩) (by assumption) ?_
        simp only [Act.put, List.setIfInBounds_toArray, List.set_cons_zero, List.set_cons_succ]
        refine wpAnyH_ready (rs := [12]) (by kernel_rfl) (by simp) ?_
        refine AllReadyH.cons (o := { dst := none, op := Op.store 36 (Operand.tmp 10) (Operand.tmp 47), type := 0, pos := "exact.go:9071", after := #[{ on := 11, ground := Ground.data }, { on := 9, ground := Ground.data }, { on := 7, ground := Ground.chain }, { on := 0, ground := Ground.phase }, { on := 1, ground := Ground.phase }, { on := 2, ground := Ground.phase }, { on := 3, ground := Ground.phase }, { on := 4, ground := Ground.phase }, { on := 5, ground := Ground.phase }, { on := 6, ground := Ground.phase }, { on := 7, ground := Ground.phase }, { on := 8, ground := Ground.phase }, { on := 9, ground := Ground.phase }, { on := 10, ground := Ground.textOnly Departure.lateStores }, { on := 11, ground := Ground.phase }], guard := none }) rfl (fun K hK => ?_) AllReadyH.nil
        rw [if_pos (by rfl)]
        refine wp_store_row 36 _ _ rfl (x2.heap.size) (V.polRow LP (.slice av LP.wh.length cv)) rfl rfl 36 _ (unhide BX) (by kernel_rfl) rfl (by simp [Value.oneCell']) ?_
        have MP := hide (V.MadeP.made (L := LP) (unhide BX) (unhide OV) (unhide zB) (unhide NE))
        replace BB := hide (V.bRow (unhide BB) (unhide zB) (V.polRow LP (.slice av LP.wh.length cv)))
        clear hHeld2
        refine hK.out _ _ (by exact (unhide Q3).keep (unhide BB)) (fun hHeld2 => ?_)
        clear hK
        simp only [Act.put, List.setIfInBounds_toArray, List.set_cons_zero, List.set_cons_succ]
        refine wpAnyH_ready (rs := [13]) (by kernel_rfl) (by simp) ?_
        refine AllReadyH.cons (o := { dst := some 11, op := Op.assign (Operand.tmp 48), type := 4, pos := "exact.go:9071", after := #[{ on := 10, ground := Ground.data }, { on := 12, ground := Ground.chain }, { on := 0, ground := Ground.phase }, { on := 1, ground := Ground.phase }, { on := 2, ground := Ground.phase }, { on := 3, ground := Ground.phase }, { on := 4, ground := Ground.phase }, { on := 5, ground := Ground.phase }, { on := 6, ground := Ground.phase }, { on := 7, ground := Ground.phase }, { on := 8, ground := Ground.phase }, { on := 9, ground := Ground.phase }, { on := 10, ground := Ground.phase }, { on := 11, ground := Ground.phase }, { on := 12, ground := Ground.phase }], guard := none }) rfl (fun K hK => ?_) AllReadyH.nil
        rw [if_pos (by rfl)]
        have HK := hide hK
        clear hK hHeld2
        go_wp2_with fail
        refine (unhide HK).out _ _ (by exact (unhide Q3).keep (unhide BB)) (fun hHeld3 => ?_)
        clear HK hHeld3
        refine wpAnyH_done (by kernel_rfl) ?_ _
        go_wp2_with fail
        go_meet
        case rel => exact ⟨x2.heap.size, av, cv, rfl, rfl, MP, BB⟩
      rw [if_pos (by rfl)]
      have HK := hide hK
      clear hK hHeld2
      go_wp2_with fail
      have zB : Hid (w3.heap.size ≤ x1.heap.size) := hide (unhide BB).size
      have BX := hide (V.RowIs.new x1 #[.string ⟨#[]⟩, .bool false, .int .i64 0, .int .i64 0, .int .i64 0, .string ⟨#[]⟩, .string ⟨#[]⟩, .string ⟨#[]⟩, .int .i64 0, .int .i64 0, .int .i64 0, .string ⟨#[]⟩, .string ⟨#[]⟩, .string ⟨#[]⟩, .int .i64 0, .int .i64 0, .int .i64 0, .string ⟨#[]⟩, .string ⟨#[]⟩, .string ⟨#[]⟩, .slice none 0 0] 36)
      replace BB := hide (bTr (unhide BB) (bAl (Below.refl _ _) (.cells #[.string ⟨#[]⟩, .bool false, .int .i64 0, .int .i64 0, .int .i64 0, .string ⟨#[]⟩, .string ⟨#[]⟩, .string ⟨#[]⟩, .int .i64 0, .int .i64 0, .int .i64 0, .string ⟨#[]⟩, .string ⟨#[]⟩, .string ⟨#[]⟩, .int .i64 0, .int .i64 0, .int .i64 0, .string ⟨#[]⟩, .string ⟨#[]⟩, .string ⟨#[]⟩, .slice none 0 0] 36)))
      try replace SE := hide ((unhide SE).keep (bAl (Below.refl _ _) (.cells #[.string ⟨#[]⟩, .bool false, .int .i64 0, .int .i64 0, .int .i64 0, .string ⟨#[]⟩, .string ⟨#[]⟩, .string ⟨#[]⟩, .int .i64 0, .int .i64 0, .int .i64 0, .string ⟨#[]⟩, .string ⟨#[]⟩, .string ⟨#[]⟩, .int .i64 0, .int .i64 0, .int .i64 0, .string ⟨#[]⟩, .string ⟨#[]⟩, .string ⟨#[]⟩, .slice none 0 0] 36)))
      try replace OV := hide (V.own_keepY (unhide OV) (bAl (Below.refl _ _) (.cells #[.string ⟨#[]⟩, .bool false, .int .i64 0, .int .i64 0, .int .i64 0, .string ⟨#[]⟩, .string ⟨#[]⟩, .string ⟨#[]⟩, .int .i64 0, .int .i64 0, .int .i64 0, .string ⟨#[]⟩, .string ⟨#[]⟩, .string ⟨#[]⟩, .int .i64 0, .int .i64 0, .int .i64 0, .string ⟨#[]⟩, .string ⟨#[]⟩, .string ⟨#[]⟩, .slice none 0 0] 36)))
      refine (unhide HK).out _ _ (by exact (unhide Q3).keep (unhide BB)) (fun hHeld2 => ?_)
      clear HK
      try simp only [Act.put, List.setIfInBounds_toArray, List.set_cons_zero, List.set_cons_succ]
      refine wpAnyH_ready (rs := [4]) (by kernel_rfl) (by simp) ?_
      refine AllReadyH.cons (o := { dst := some 43, op := Op.call { callee := Callee.value (Operand.func 8), args := #[Operand.tmp 42], argTypes := #[23] }, type := 31, pos := "exact.go:9071", after := #[{ on := 3, ground := Ground.data }, { on := 1, ground := Ground.chain }], guard := none }) rfl (fun K hK => ?_) AllReadyH.nil
      refine V.step_call1 _ (by rfl) 8 _ _ (by rfl) (.agg #[.int .i64 pr.x, .int .i64 pr.n, .string pr.t, .string pr.y]) (by rfl) V.ent_toAtom (unhide qtp _) ?_
      rintro e x8 ⟨rfl, hb⟩
      replace BX := hide ((unhide BX).keep hb)
      replace SE := hide ((unhide SE).keep hb)
      replace BB := hide (bTr (unhide BB) hb)
      clear hb
      clear hHeld2
      refine ⟨_, rfl, ?_⟩
      refine hK.out _ _ (by exact (unhide Q3).keep (unhide BB)) (fun hHeld2 => ?_)
      clear hK
      simp only [Act.put, List.setIfInBounds_toArray, List.set_cons_zero, List.set_cons_succ]
      refine wpAnyH_ready (rs := [6]) (by kernel_rfl) (by simp) ?_
      refine AllReadyH.cons (o := { dst := some 45, op := Op.call { callee := Callee.value (Operand.func 8), args := #[Operand.tmp 44], argTypes := #[23] }, type := 31, pos := "exact.go:9071", after := #[{ on := 5, ground := Ground.data }, { on := 4, ground := Ground.chain }], guard := none }) rfl (fun K hK => ?_) AllReadyH.nil
      refine V.step_call1 _ (by rfl) 8 _ _ (by rfl) (.agg #[.int .i64 re.x, .int .i64 re.n, .string re.t, .string re.y]) (by rfl) V.ent_toAtom (unhide qtr _) ?_
      rintro e x9 ⟨rfl, hb⟩
      replace BX := hide ((unhide BX).keep hb)
      replace SE := hide ((unhide SE).keep hb)
      replace BB := hide (bTr (unhide BB) hb)
      clear hb
      clear hHeld2
      refine ⟨_, rfl, ?_⟩
      refine hK.out _ _ (by exact (unhide Q3).keep (unhide BB)) (fun hHeld2 => ?_)
      clear hK
      simp only [Act.put, List.setIfInBounds_toArray, List.set_cons_zero, List.set_cons_succ]
      refine wpAnyH_ready (rs := [7]) (by kernel_rfl) (by simp) ?_
      refine AllReadyH.cons (o := { dst := some 46, op := Op.call { callee := Callee.value (Operand.func 6), args := #[Operand.tmp 40, Operand.tmp 41, Operand.tmp 43, Operand.tmp 45], argTypes := #[36, 9, 31, 31] }, type := 37, pos := "exact.go:9071", after := #[{ on := 1, ground := Ground.data }, { on := 2, ground := Ground.data }, { on := 4, ground := Ground.data }, { on := 6, ground := Ground.data }, { on := 6, ground := Ground.chain }], guard := none }) rfl (fun K hK => ?_) AllReadyH.nil
      refine V.step_call4 _ (by rfl) 6 _ _ _ _ _ (by rfl) (V.polAgg P (.slice (some ⟨b2, 0, none⟩) len len)) (.string id) (.agg #[.int .i64 pr.x, .int .i64 pr.n, .string pr.t, .string pr.y]) (.agg #[.int .i64 re.x, .int .i64 re.n, .string re.t, .string re.y]) (by rfl) (by rfl) (by rfl) (by rfl) V.ent_spec (unhide qs b2 _ (unhide SE)) ?_
      rintro e x10 ⟨⟨v, rfl, ov⟩, hb⟩
      obtain ⟨av, cv, rfl, _⟩ := V.own_Expr ov
      have OV := hide (V.own_loY ov (unhide BB).size)
      have NE : Hid (∀ g, (Value.slice av LP.wh.length cv).ownBlock = some g → g ≠ x1.heap.size) := hide (fun g e => by have h1 := (ov.lt g e).1; have h2 := (unhide BX).lt; omega)
      replace BX := hide ((unhide BX).keep hb)
      replace BB := hide (bTr (unhide BB) hb)
      clear hb ov
      clear hHeld2
      refine ⟨_, rfl, ?_⟩
      refine hK.out _ _ (by exact (unhide Q3).keep (unhide BB)) (fun hHeld2 => ?_)
      clear hK
      simp only [Act.put, List.setIfInBounds_toArray, List.set_cons_zero, List.set_cons_succ]
      refine wpAnyH_take (i := 8) (oi := { dst := some 38, op := Op.move (Operand.tmp 46), type := 37, pos := "exact.go:9071", after := #[{ on := 7, ground := Ground.data }], guard := none }) (v := .tuple #[V.polAgg LP (.slice av LP.wh.length cv), .bool ok]) rfl (by kernel_rfl) (by kernel_rfl) (by kernel_rfl) (fun _ _ _ h => h) (Or.inl ⟨by rfl, (by intro w hSw; (try go_simp); (try with_reducible rfl))⟩) (by assumption) ?_
      simp only [Act.put, List.setIfInBounds_toArray, List.set_cons_zero, List.set_cons_succ]
      refine wpAnyH_take (i := 9) (oi := { dst := some 47, op := Op.extract (Operand.tmp 38) 0, type := 36, pos := "exact.go:9071", after := #[{ on := 8, ground := Ground.data }], guard := none }) (v := V.polAgg LP (.slice av LP.wh.length cv)) rfl (by kernel_rfl) (by kernel_rfl) (by kernel_rfl) (fun _ _ _ h => h) (Or.inl ⟨by rfl, (by intro w hSw; (try go_simp); (try with_reducible rfl))⟩) (by assumption) ?_
      simp only [Act.put, List.setIfInBounds_toArray, List.set_cons_zero, List.set_cons_succ]
      refine wpAnyH_take (i := 10) (oi := { dst := some 48, op := Op.extract (Operand.tmp 38) 1, type := 4, pos := "exact.go:9071", after := #[{ on := 8, ground := Ground.data }, { on := 12, ground := Ground.gcOnly Departure.lateStores }], guard := none }) (v := .bool ok) rfl (by kernel_rfl) (by kernel_rfl) (by kernel_rfl) (fun _ _ _ h => h) (Or.inl ⟨by rfl, (by intro w hSw; (try go_simp); (try with_reducible rfl))⟩) (by assumption) ?_
      simp only [Act.put, List.setIfInBounds_toArray, List.set_cons_zero, List.set_cons_succ]
      refine wpAnyH_ready (rs := [12]) (by kernel_rfl) (by simp) ?_
      refine AllReadyH.cons (o := { dst := none, op := Op.store 36 (Operand.tmp 10) (Operand.tmp 47), type := 0, pos := "exact.go:9071", after := #[{ on := 11, ground := Ground.data }, { on := 9, ground := Ground.data }, { on := 7, ground := Ground.chain }, { on := 0, ground := Ground.phase }, { on := 1, ground := Ground.phase }, { on := 2, ground := Ground.phase }, { on := 3, ground := Ground.phase }, { on := 4, ground := Ground.phase }, { on := 5, ground := Ground.phase }, { on := 6, ground := Ground.phase }, { on := 7, ground := Ground.phase }, { on := 8, ground := Ground.phase }, { on := 9, ground := Ground.phase }, { on := 10, ground := Ground.textOnly Departure.lateStores }, { on := 11, ground := Ground.phase }], guard := none }) rfl (fun K hK => ?_) AllReadyH.nil
      rw [if_pos (by rfl)]
      refine wp_store_row 36 _ _ rfl (x1.heap.size) (V.polRow LP (.slice av LP.wh.length cv)) rfl rfl 36 _ (unhide BX) (by kernel_rfl) rfl (by simp [Value.oneCell']) ?_
      have MP := hide (V.MadeP.made (L := LP) (unhide BX) (unhide OV) (unhide zB) (unhide NE))
      replace BB := hide (V.bRow (unhide BB) (unhide zB) (V.polRow LP (.slice av LP.wh.length cv)))
      clear hHeld2
      refine hK.out _ _ (by exact (unhide Q3).keep (unhide BB)) (fun hHeld2 => ?_)
      clear hK
      simp only [Act.put, List.setIfInBounds_toArray, List.set_cons_zero, List.set_cons_succ]
      refine wpAnyH_ready (rs := [13]) (by kernel_rfl) (by simp) ?_
      refine AllReadyH.cons (o := { dst := some 11, op := Op.assign (Operand.tmp 48), type := 4, pos := "exact.go:9071", after := #[{ on := 10, ground := Ground.data }, { on := 12, ground := Ground.chain }, { on := 0, ground := Ground.phase }, { on := 1, ground := Ground.phase }, { on := 2, ground := Ground.phase }, { on := 3, ground := Ground.phase }, { on := 4, ground := Ground.phase }, { on := 5, ground := Ground.phase }, { on := 6, ground := Ground.phase }, { on := 7, ground := Ground.phase }, { on := 8, ground := Ground.phase }, { on := 9, ground := Ground.phase }, { on := 10, ground := Ground.phase }, { on := 11, ground := Ground.phase }, { on := 12, ground := Ground.phase }], guard := none }) rfl (fun K hK => ?_) AllReadyH.nil
      rw [if_pos (by rfl)]
      have HK := hide hK
      clear hK hHeld2
      go_wp2_with fail
      refine (unhide HK).out _ _ (by exact (unhide Q3).keep (unhide BB)) (fun hHeld3 => ?_)
      clear HK hHeld3
      refine wpAnyH_done (by kernel_rfl) ?_ _
      go_wp2_with fail
      go_meet
      case rel => exact ⟨x1.heap.size, av, cv, rfl, rfl, MP, BB⟩
    rw [if_pos (by rfl)]
    have HK := hide hK
    clear hK hHeld
    go_wp2_with fail
    have zB : Hid (w3.heap.size ≤ w3.drew.heap.size) := hide (unhide BB).size
    have BX := hide (V.RowIs.new w3.drew #[.string ⟨#[]⟩, .bool false, .int .i64 0, .int .i64 0, .int .i64 0, .string ⟨#[]⟩, .string ⟨#[]⟩, .string ⟨#[]⟩, .int .i64 0, .int .i64 0, .int .i64 0, .string ⟨#[]⟩, .string ⟨#[]⟩, .string ⟨#[]⟩, .int .i64 0, .int .i64 0, .int .i64 0, .string ⟨#[]⟩, .string ⟨#[]⟩, .string ⟨#[]⟩, .slice none 0 0] 36)
    replace BB := hide (bTr (unhide BB) (bAl (Below.refl _ _) (.cells #[.string ⟨#[]⟩, .bool false, .int .i64 0, .int .i64 0, .int .i64 0, .string ⟨#[]⟩, .string ⟨#[]⟩, .string ⟨#[]⟩, .int .i64 0, .int .i64 0, .int .i64 0, .string ⟨#[]⟩, .string ⟨#[]⟩, .string ⟨#[]⟩, .int .i64 0, .int .i64 0, .int .i64 0, .string ⟨#[]⟩, .string ⟨#[]⟩, .string ⟨#[]⟩, .slice none 0 0] 36)))
    try replace SE := hide ((unhide SE).keep (bAl (Below.refl _ _) (.cells #[.string ⟨#[]⟩, .bool false, .int .i64 0, .int .i64 0, .int .i64 0, .string ⟨#[]⟩, .string ⟨#[]⟩, .string ⟨#[]⟩, .int .i64 0, .int .i64 0, .int .i64 0, .string ⟨#[]⟩, .string ⟨#[]⟩, .string ⟨#[]⟩, .int .i64 0, .int .i64 0, .int .i64 0, .string ⟨#[]⟩, .string ⟨#[]⟩, .string ⟨#[]⟩, .slice none 0 0] 36)))
    try replace OV := hide (V.own_keepY (unhide OV) (bAl (Below.refl _ _) (.cells #[.string ⟨#[]⟩, .bool false, .int .i64 0, .int .i64 0, .int .i64 0, .string ⟨#[]⟩, .string ⟨#[]⟩, .string ⟨#[]⟩, .int .i64 0, .int .i64 0, .int .i64 0, .string ⟨#[]⟩, .string ⟨#[]⟩, .string ⟨#[]⟩, .int .i64 0, .int .i64 0, .int .i64 0, .string ⟨#[]⟩, .string ⟨#[]⟩, .string ⟨#[]⟩, .slice none 0 0] 36)))
    refine (unhide HK).out _ _ (by exact (unhide Q3).keep (unhide BB)) (fun hHeld2 => ?_)
    clear HK
    try simp only [Act.put, List.setIfInBounds_toArray, List.set_cons_zero, List.set_cons_succ]
    refine wpAnyH_ready (rs := [1]) (by kernel_rfl) (by simp) ?_
    refine AllReadyH.cons (o := { dst := some 40, op := Op.call { callee := Callee.value (Operand.func 7), args := #[Operand.tmp 39], argTypes := #[28] }, type := 36, pos := "exact.go:9071", after := #[{ on := 0, ground := Ground.data }], guard := none }) rfl (fun K hK => ?_) AllReadyH.nil
    refine V.step_call1 _ (by rfl) 7 _ _ (by rfl) (V.polAgg P (.slice a len cap)) (by rfl) V.ent_toPolicy (unhide QT _ ((unhide HS).keep (bTr (unhide B) (unhide BB)))) ?_
    rintro e x11 ⟨b2, rfl, _, ⟨_, _, _, r2⟩, hb⟩
    have SE : Hid (V.SlExpr x11 (some ⟨b2, 0, none⟩) len P.wh) := hide ⟨unhide hll, .inr ⟨b2, 0, rfl, r2⟩⟩
    replace BX := hide ((unhide BX).keep hb)
    replace BB := hide (bTr (unhide BB) hb)
    clear hb r2
    clear hHeld2
    refine ⟨_, rfl, ?_⟩
    refine hK.out _ _ (by exact (unhide Q3).keep (unhide BB)) (fun hHeld2 => ?_)
    clear hK
    simp only [Act.put, List.setIfInBounds_toArray, List.set_cons_zero, List.set_cons_succ]
    refine wpAnyH_ready (rs := [4]) (by kernel_rfl) (by simp) ?_
    refine AllReadyH.cons (o := { dst := some 43, op := Op.call { callee := Callee.value (Operand.func 8), args := #[Operand.tmp 42], argTypes := #[23] }, type := 31, pos := "exact.go:9071", after := #[{ on := 3, ground := Ground.data }, { on := 1, ground := Ground.chain }], guard := none }) rfl (fun K hK => ?_) AllReadyH.nil
    refine V.step_call1 _ (by rfl) 8 _ _ (by rfl) (.agg #[.int .i64 pr.x, .int .i64 pr.n, .string pr.t, .string pr.y]) (by rfl) V.ent_toAtom (unhide qtp _) ?_
    rintro e x12 ⟨rfl, hb⟩
    replace BX := hide ((unhide BX).keep hb)
    replace SE := hide ((unhide SE).keep hb)
    replace BB := hide (bTr (unhide BB) hb)
    clear hb
    clear hHeld2
    refine ⟨_, rfl, ?_⟩
    refine hK.out _ _ (by exact (unhide Q3).keep (unhide BB)) (fun hHeld2 => ?_)
    clear hK
    simp only [Act.put, List.setIfInBounds_toArray, List.set_cons_zero, List.set_cons_succ]
    refine wpAnyH_ready (rs := [6]) (by kernel_rfl) (by simp) ?_
    refine AllReadyH.cons (o := { dst := some 45, op := Op.call { callee := Callee.value (Operand.func 8), args := #[Operand.tmp 44], argTypes := #[23] }, type := 31, pos := "exact.go:9071", after := #[{ on := 5, ground := Ground.data }, { on := 4, ground := Ground.chain }], guard := none }) rfl (fun K hK => ?_) AllReadyH.nil
    refine V.step_call1 _ (by rfl) 8 _ _ (by rfl) (.agg #[.int .i64 re.x, .int .i64 re.n, .string re.t, .string re.y]) (by rfl) V.ent_toAtom (unhide qtr _) ?_
    rintro e x13 ⟨rfl, hb⟩
    replace BX := hide ((unhide BX).keep hb)
    replace SE := hide ((unhide SE).keep hb)
    replace BB := hide (bTr (unhide BB) hb)
    clear hb
    clear hHeld2
    refine ⟨_, rfl, ?_⟩
    refine hK.out _ _ (by exact (unhide Q3).keep (unhide BB)) (fun hHeld2 => ?_)
    clear hK
    simp only [Act.put, List.setIfInBounds_toArray, List.set_cons_zero, List.set_cons_succ]
    refine wpAnyH_ready (rs := [7]) (by kernel_rfl) (by simp) ?_
    refine AllReadyH.cons (o := { dst := some 46, op := Op.call { callee := Callee.value (Operand.func 6), args := #[Operand.tmp 40, Operand.tmp 41, Operand.tmp 43, Operand.tmp 45], argTypes := #[36, 9, 31, 31] }, type := 37, pos := "exact.go:9071", after := #[{ on := 1, ground := Ground.data }, { on := 2, ground := Ground.data }, { on := 4, ground := Ground.data }, { on := 6, ground := Ground.data }, { on := 6, ground := Ground.chain }], guard := none }) rfl (fun K hK => ?_) AllReadyH.nil
    refine V.step_call4 _ (by rfl) 6 _ _ _ _ _ (by rfl) (V.polAgg P (.slice (some ⟨b2, 0, none⟩) len len)) (.string id) (.agg #[.int .i64 pr.x, .int .i64 pr.n, .string pr.t, .string pr.y]) (.agg #[.int .i64 re.x, .int .i64 re.n, .string re.t, .string re.y]) (by rfl) (by rfl) (by rfl) (by rfl) V.ent_spec (unhide qs b2 _ (unhide SE)) ?_
    rintro e x14 ⟨⟨v, rfl, ov⟩, hb⟩
    obtain ⟨av, cv, rfl, _⟩ := V.own_Expr ov
    have OV := hide (V.own_loY ov (unhide BB).size)
    have NE : Hid (∀ g, (Value.slice av LP.wh.length cv).ownBlock = some g → g ≠ w3.drew.heap.size) := hide (fun g e => by have h1 := (ov.lt g e).1; have h2 := (unhide BX).lt; omega)
    replace BX := hide ((unhide BX).keep hb)
    replace BB := hide (bTr (unhide BB) hb)
    clear hb ov
    clear hHeld2
    refine ⟨_, rfl, ?_⟩
    refine hK.out _ _ (by exact (unhide Q3).keep (unhide BB)) (fun hHeld2 => ?_)
    clear hK
    simp only [Act.put, List.setIfInBounds_toArray, List.set_cons_zero, List.set_cons_succ]
    refine wpAnyH_take (i := 8) (oi := { dst := some 38, op := Op.move (Operand.tmp 46), type := 37, pos := "exact.go:9071", after := #[{ on := 7, ground := Ground.data }], guard := none }) (v := .tuple #[V.polAgg LP (.slice av LP.wh.length cv), .bool ok]) rfl (by kernel_rfl) (by kernel_rfl) (by kernel_rfl) (fun _ _ _ h => h) (Or.inl ⟨by rfl, (by intro w hSw; (try go_simp); (try with_reducible rfl))⟩) (by assumption) ?_
    simp only [Act.put, List.setIfInBounds_toArray, List.set_cons_zero, List.set_cons_succ]
    refine wpAnyH_take (i := 9) (oi := { dst := some 47, op := Op.extract (Operand.tmp 38) 0, type := 36, pos := "exact.go:9071", after := #[{ on := 8, ground := Ground.data }], guard := none }) (v := V.polAgg LP (.slice av LP.wh.length cv)) rfl (by kernel_rfl) (by kernel_rfl) (by kernel_rfl) (fun _ _ _ h => h) (Or.inl ⟨by rfl, (by intro w hSw; (try go_simp); (try with_reducible rfl))⟩) (by assumption) ?_
    simp only [Act.put, List.setIfInBounds_toArray, List.set_cons_zero, List.set_cons_succ]
    refine wpAnyH_take (i := 10) (oi := { dst := some 48, op := Op.extract (Operand.tmp 38) 1, type := 4, pos := "exact.go:9071", after := #[{ on := 8, ground := Ground.data }, { on := 12, ground := Ground.gcOnly Departure.lateStores }], guard := none }) (v := .bool ok) rfl (by kernel_rfl) (by kernel_rfl) (by kernel_rfl) (fun _ _ _ h => h) (Or.inl ⟨by rfl, (by intro w hSw; (try go_simp); (try with_reducible rfl))⟩) (by assumption) ?_
    simp only [Act.put, List.setIfInBounds_toArray, List.set_cons_zero, List.set_cons_succ]
    refine wpAnyH_ready (rs := [12]) (by kernel_rfl) (by simp) ?_
    refine AllReadyH.cons (o := { dst := none, op := Op.store 36 (Operand.tmp 10) (Operand.tmp 47), type := 0, pos := "exact.go:9071", after := #[{ on := 11, ground := Ground.data }, { on := 9, ground := Ground.data }, { on := 7, ground := Ground.chain }, { on := 0, ground := Ground.phase }, { on := 1, ground := Ground.phase }, { on := 2, ground := Ground.phase }, { on := 3, ground := Ground.phase }, { on := 4, ground := Ground.phase }, { on := 5, ground := Ground.phase }, { on := 6, ground := Ground.phase }, { on := 7, ground := Ground.phase }, { on := 8, ground := Ground.phase }, { on := 9, ground := Ground.phase }, { on := 10, ground := Ground.textOnly Departure.lateStores }, { on := 11, ground := Ground.phase }], guard := none }) rfl (fun K hK => ?_) AllReadyH.nil
    rw [if_pos (by rfl)]
    refine wp_store_row 36 _ _ rfl (w3.drew.heap.size) (V.polRow LP (.slice av LP.wh.length cv)) rfl rfl 36 _ (unhide BX) (by kernel_rfl) rfl (by simp [Value.oneCell']) ?_
    have MP := hide (V.MadeP.made (L := LP) (unhide BX) (unhide OV) (unhide zB) (unhide NE))
    replace BB := hide (V.bRow (unhide BB) (unhide zB) (V.polRow LP (.slice av LP.wh.length cv)))
    clear hHeld2
    refine hK.out _ _ (by exact (unhide Q3).keep (unhide BB)) (fun hHeld2 => ?_)
    clear hK
    simp only [Act.put, List.setIfInBounds_toArray, List.set_cons_zero, List.set_cons_succ]
    refine wpAnyH_ready (rs := [13]) (by kernel_rfl) (by simp) ?_
    refine AllReadyH.cons (o := { dst := some 11, op := Op.assign (Operand.tmp 48), type := 4, pos := "exact.go:9071", after := #[{ on := 10, ground := Ground.data }, { on := 12, ground := Ground.chain }, { on := 0, ground := Ground.phase }, { on := 1, ground := Ground.phase }, { on := 2, ground := Ground.phase }, { on := 3, ground := Ground.phase }, { on := 4, ground := Ground.phase }, { on := 5, ground := Ground.phase }, { on := 6, ground := Ground.phase }, { on := 7, ground := Ground.phase }, { on := 8, ground := Ground.phase }, { on := 9, ground := Ground.phase }, { on := 10, ground := Ground.phase }, { on := 11, ground := Ground.phase }, { on := 12, ground := Ground.phase }], guard := none }) rfl (fun K hK => ?_) AllReadyH.nil
    rw [if_pos (by rfl)]
    have HK := hide hK
    clear hK hHeld2
    go_wp2_with fail
    refine (unhide HK).out _ _ (by exact (unhide Q3).keep (unhide BB)) (fun hHeld3 => ?_)
    clear HK hHeld3
    refine wpAnyH_done (by kernel_rfl) ?_ _
    go_wp2_with fail
    go_meet
    case rel => exact ⟨w3.drew.heap.size, av, cv, rfl, rfl, MP, BB⟩
  case rest =>
    obtain ⟨S1, rfl⟩ : ∃ x, x = wc := ⟨wc, rfl⟩
    obtain ⟨bxw, aw, cw, rfl, rfl, MW, BW⟩ := hcut
    clear qs
    replace Q3 := hide ((unhide Q3).keep (unhide BW))
    replace B := hide (bTr (unhide B) (unhide BW))
    have z1 := hide (Nat.le_trans (unhide zW) (unhide BW).size)
    have LW := hide (unhide MW).lt
    clear BW zW
    go_upto_region 14 with fail
    go_step
    refine wpList_load_row rfl 28 _ rfl _ rfl 28 _ (0, 0) _ (unhide Q3).p Try.underlying28 rfl (by kernel_rfl) ?_
    go_wp2_with fail
    refine (unhide QT _ ((unhide HS).keep (unhide B))).mono ?_
    rintro e w4 ⟨b4, rfl, zb4, ⟨C4, hC4, hs4, r4⟩, hb4⟩
    replace Q3 := hide ((unhide Q3).keep hb4)
    replace MW := hide ((unhide MW).keep hb4)
    replace B := hide (bTr (unhide B) hb4)
    obtain ⟨W5, hW5⟩ : ∃ W, W = (w4.alloc (.cells #[.string ⟨#[]⟩, .bool false, .int .i64 0, .int .i64 0, .int .i64 0, .string ⟨#[]⟩, .string ⟨#[]⟩, .string ⟨#[]⟩, .int .i64 0, .int .i64 0, .int .i64 0, .string ⟨#[]⟩, .string ⟨#[]⟩, .string ⟨#[]⟩, .int .i64 0, .int .i64 0, .int .i64 0, .string ⟨#[]⟩, .string ⟨#[]⟩, .string ⟨#[]⟩, .slice none 0 0] 36)).setRow w4.heap.size (V.polRow P (.slice (some ⟨b4, 0, none⟩) len len)) := ⟨_, rfl⟩
    have HW5 := hide hW5.symm
    have b45 : Below w4.heap.size w4 W5 := by rw [hW5]; exact V.bRow (bAl (Below.refl _ _) _) (Nat.le_refl _) _
    have QX := hide (show V.RowIs W5 w4.heap.size (V.polRow P (.slice (some ⟨b4, 0, none⟩) len len)) 36 by rw [hW5]; exact setRow_heap _ _ _ _ _ _ (V.RowIs.new w4 #[.string ⟨#[]⟩, .bool false, .int .i64 0, .int .i64 0, .int .i64 0, .string ⟨#[]⟩, .string ⟨#[]⟩, .string ⟨#[]⟩, .int .i64 0, .int .i64 0, .int .i64 0, .string ⟨#[]⟩, .string ⟨#[]⟩, .string ⟨#[]⟩, .int .i64 0, .int .i64 0, .int .i64 0, .string ⟨#[]⟩, .string ⟨#[]⟩, .string ⟨#[]⟩, .slice none 0 0] 36))
    have SX : Hid (V.SlExpr W5 (some ⟨b4, 0, none⟩) len P.wh) := hide ⟨unhide hll, .inr ⟨b4, 0, rfl, r4.keep b45⟩⟩
    have RX := hide (V.RowIs.keep hC4 b45)
    replace Q3 := hide ((unhide Q3).keep b45)
    replace MW := hide ((unhide MW).keep b45)
    replace B := hide (bTr (unhide B) b45)
    have z4 := hide zb4
    have z5 := hide hs4
    have z6 := hide (unhide RX).lt
    clear hW5 b45 r4 hb4 zb4 hs4 hC4
    iterate 5 (try (first | go_values | go_skip | go_guarded | go_step | go_upon | go_simp))
    refine wpList_store_row rfl 36 _ _ rfl w4.heap.size (V.polRow P (.slice (some ⟨b4, 0, none⟩) len len)) rfl rfl 36 _ (V.RowIs.new w4 #[.string ⟨#[]⟩, .bool false, .int .i64 0, .int .i64 0, .int .i64 0, .string ⟨#[]⟩, .string ⟨#[]⟩, .string ⟨#[]⟩, .int .i64 0, .int .i64 0, .int .i64 0, .string ⟨#[]⟩, .string ⟨#[]⟩, .string ⟨#[]⟩, .int .i64 0, .int .i64 0, .int .i64 0, .string ⟨#[]⟩, .string ⟨#[]⟩, .string ⟨#[]⟩, .slice none 0 0] 36) (by kernel_rfl) rfl (by simp [Value.oneCell']) ?_
    rw [unhide HW5]
    clear HW5
    obtain ⟨bx4, hbx4⟩ : ∃ b, b = w4.heap.size := ⟨_, rfl⟩
    rw [← hbx4] at QX ⊢
    clear hbx4
    go_wp2_with fail
    try simp only [Act.put, List.setIfInBounds_toArray, List.set_cons_zero, List.set_cons_succ]
    go_cut [13, 14] from 20 (fun p c wx => ∃ (bx : Nat) (av : Option Addr) (cv : Nat), p = .pointer (some ⟨bx, 0, none⟩) ∧ c = .bool ok ∧ Hid (V.MadeP wx W5.heap.size LP bx (.slice av LP.wh.length cv)) ∧ Hid (Below W5.heap.size W5 wx))
    case first =>
      have BB : Hid (Below W5.heap.size W5 W5.drew) := hide (Below.refl _ _).drew
      refine wp_region_held_drew (S := (fun w' => V.H3 P (.slice a len cap) pr re w.heap.size w' ∧ V.RowIs w' bx4 (V.polRow P (.slice (some ⟨b4, 0, none⟩) len len)) 36)) (by kernel_rfl) (by exact ⟨(unhide Q3).keep (unhide BB), (unhide QX).keep (unhide BB)⟩) (fun hHeld => ?_)
      refine wpAnyH_take (i := 0) (oi := { dst := some 52, op := Op.load 36 (Operand.tmp 12), type := 36, pos := "exact.go:9073", after := #[], guard := none }) (v := .agg (V.polRow P (.slice (some ⟨b4, 0, none⟩) len len))) rfl (by kernel_rfl) (by kernel_rfl) (by kernel_rfl) (fun _ _ _ h => h) (V.yields_row (by rfl) 36 _ rfl bx4 rfl 36 _ _ (fun w h => h.2) Try.underlying36 rfl (by kernel_rfl)) (by assumption) ?_
      simp only [Act.put, List.setIfInBounds_toArray, List.set_cons_zero, List.set_cons_succ]
      refine wpAnyH_take (i := 1) (oi := { dst := some 53, op := Op.move (Operand.tmp 1), type := 9, pos := "exact.go:9073", after := #[], guard := none }) (v := .string id) rfl (by kernel_rfl) (by kernel_rfl) (by kernel_rfl) (fun _ _ _ h => h) (Or.inl ⟨by rfl, (by intro w hSw; (try go_simp); (try with_reducible rfl))⟩) (by assumption) ?_
      simp only [Act.put, List.setIfInBounds_toArray, List.set_cons_zero, List.set_cons_succ]
      refine wpAnyH_take (i := 2) (oi := { dst := some 54, op := Op.load 23 (Operand.tmp 6), type := 23, pos := "exact.go:9073", after := #[], guard := none }) (v := .agg #[.int .i64 pr.x, .int .i64 pr.n, .string pr.t, .string pr.y]) rfl (by kernel_rfl) (by kernel_rfl) (by kernel_rfl) (fun _ _ _ h => h) (V.yields_row (by rfl) 23 _ rfl (w.heap.size + 1) rfl 23 _ _ (fun w h => h.1.r) Try.underlying23 rfl (by kernel_rfl)) (by assumption) ?_
      simp only [Act.put, List.setIfInBounds_toArray, List.set_cons_zero, List.set_cons_succ]
      refine wpAnyH_take (i := 4) (oi := { dst := some 56, op := Op.load 23 (Operand.tmp 7), type := 23, pos := "exact.go:9073", after := #[], guard := none }) (v := .agg #[.int .i64 re.x, .int .i64 re.n, .string re.t, .string re.y]) rfl (by kernel_rfl) (by kernel_rfl) (by kernel_rfl) (fun _ _ _ h => h) (V.yields_row (by rfl) 23 _ rfl (w.heap.size + 1 + 1) rfl 23 _ _ (fun w h => h.1.q) Try.underlying23 rfl (by kernel_rfl)) (by assumption) ?_
      simp only [Act.put, List.setIfInBounds_toArray, List.set_cons_zero, List.set_cons_succ]
      refine wpAnyH_ready (rs := [3, 10]) (by kernel_rfl) (by simp) ?_
      refine AllReadyH.cons (o := { dst := some 55, op := Op.call { callee := Callee.value (Operand.func 8), args := #[Operand.tmp 54], argTypes := #[23] }, type := 31, pos := "exact.go:9073", after := #[{ on := 2, ground := Ground.data }], guard := none }) rfl (fun K hK => ?_) (AllReadyH.cons (o := { dst := some 13, op := Op.alloc 36, type := 0, pos := "exact.go:9073", after := #[], guard := none }) rfl (fun K hK => ?_) AllReadyH.nil)
      focus
        refine V.step_call1 _ (by rfl) 8 _ _ (by rfl) (.agg #[.int .i64 pr.x, .int .i64 pr.n, .string pr.t, .string pr.y]) (by rfl) V.ent_toAtom (unhide qtp _) ?_
        rintro e x1 ⟨rfl, hb⟩
        replace BB := hide (bTr (unhide BB) hb)
        clear hb
        clear hHeld
        refine ⟨_, rfl, ?_⟩
        refine hK.out _ _ (by exact ⟨(unhide Q3).keep (unhide BB), (unhide QX).keep (unhide BB)⟩) (fun hHeld2 => ?_)
        clear hK
        simp only [Act.put, List.setIfInBounds_toArray, List.set_cons_zero, List.set_cons_succ]
        refine wpAnyH_ready (rs := [5, 10]) (by kernel_rfl) (by simp) ?_
        refine AllReadyH.cons (o := { dst := some 57, op := Op.call { callee := Callee.value (Operand.func 8), args := #[Operand.tmp 56], argTypes := #[23] }, type := 31, pos := "exact.go:9073", after := #[{ on := 4, ground := Ground.data }, { on := 3, ground := Ground.chain }], guard := none }) rfl (fun K hK => ?_) (AllReadyH.cons (o := { dst := some 13, op := Op.alloc 36, type := 0, pos := "exact.go:9073", after := #[], guard := none }) rfl (fun K hK => ?_) AllReadyH.nil)
        focus
          refine V.step_call1 _ (by rfl) 8 _ _ (by rfl) (.agg #[.int .i64 re.x, .int .i64 re.n, .string re.t, .string re.y]) (by rfl) V.ent_toAtom (unhide qtr _) ?_
          rintro e x2 ⟨rfl, hb⟩
          replace BB := hide (bTr (unhide BB) hb)
          clear hb
          clear hHeld2
          refine ⟨_, rfl, ?_⟩
          refine hK.out _ _ (by exact ⟨(unhide Q3).keep (unhide BB), (unhide QX).keep (unhide BB)⟩) (fun hHeld2 => ?_)
          clear hK
          simp only [Act.put, List.setIfInBounds_toArray, List.set_cons_zero, List.set_cons_succ]
          refine wpAnyH_ready (rs := [6, 10]) (by kernel_rfl) (by simp) ?_
          refine AllReadyH.cons (o := { dst := some 58, op := Op.call { callee := Callee.value (Operand.func 9), args := #[Operand.tmp 52, Operand.tmp 53, Operand.tmp 55, Operand.tmp 57], argTypes := #[36, 9, 31, 31] }, type := 37, pos := "exact.go:9073", after := #[{ on := 0, ground := Ground.data }, { on := 1, ground := Ground.data }, { on := 3, ground := Ground.data }, { on := 5, ground := Ground.data }, { on := 5, ground := Ground.chain }], guard := none }) rfl (fun K hK => ?_) (AllReadyH.cons (o := { dst := some 13, op := Op.alloc 36, type := 0, pos := "exact.go:9073", after := #[], guard := none }) rfl (fun K hK => ?_) AllReadyH.nil)
          focus
            refine V.step_call4 _ (by rfl) 9 _ _ _ _ _ (by rfl) (V.polAgg P (.slice (some ⟨b4, 0, none⟩) len len)) (.string id) (.agg #[.int .i64 pr.x, .int .i64 pr.n, .string pr.t, .string pr.y]) (.agg #[.int .i64 re.x, .int .i64 re.n, .string re.t, .string re.y]) (by rfl) (by rfl) (by rfl) (by rfl) V.ent_impl (unhide qi b4 _ ((unhide SX).keep (unhide BB))) ?_
            rintro e x3 ⟨⟨v, rfl, ov⟩, hb⟩
            obtain ⟨av, cv, rfl, _⟩ := V.own_Expr ov
            have OV := hide (V.own_loY ov (unhide BB).size)
            replace BB := hide (bTr (unhide BB) hb)
            clear hb ov
            clear hHeld2
            refine ⟨_, rfl, ?_⟩
            refine hK.out _ _ (by exact ⟨(unhide Q3).keep (unhide BB), (unhide QX).keep (unhide BB)⟩) (fun hHeld2 => ?_)
            clear hK
            simp only [Act.put, List.setIfInBounds_toArray, List.set_cons_zero, List.set_cons_succ]
            refine wpAnyH_take (i := 7) (oi := { dst := some 51, op := Op.move (Operand.tmp 58), type := 37, pos := "exact.go:9073", after := #[{ on := 6, ground := Ground.data }], guard := none }) (v := .tuple #[V.polAgg LP (.slice av LP.wh.length cv), .bool ok]) rfl (by kernel_rfl) (by kernel_rfl) (by kernel_rfl) (fun _ _ _ h => h) (Or.inl ⟨by rfl, (by intro w hSw; (try go_simp); (try with_reducible rfl))⟩) (by assumption) ?_
            simp only [Act.put, List.setIfInBounds_toArray, List.set_cons_zero, List.set_cons_succ]
            refine wpAnyH_take (i := 8) (oi := { dst := some 59, op := Op.extract (Operand.tmp 51) 0, type := 36, pos := "exact.go:9073", after := #[{ on := 7, ground := Ground.data }], guard := none }) (v := V.polAgg LP (.slice av LP.wh.length cv)) rfl (by kernel_rfl) (by kernel_rfl) (by kernel_rfl) (fun _ _ _ h => h) (Or.inl ⟨by rfl, (by intro w hSw; (try go_simp); (try with_reducible rfl))⟩) (by assumption) ?_
            simp only [Act.put, List.setIfInBounds_toArray, List.set_cons_zero, List.set_cons_succ]
            refine wpAnyH_take (i := 9) (oi := { dst := some 60, op := Op.extract (Operand.tmp 51) 1, type := 4, pos := "exact.go:9073", after := #[{ on := 7, ground := Ground.data }, { on := 11, ground := Ground.gcOnly Departure.lateStores }], guard := none }) (v := .bool ok) rfl (by kernel_rfl) (by kernel_rfl) (by kernel_rfl) (fun _ _ _ h => h) (Or.inl ⟨by rfl, (by intro w hSw; (try go_simp); (try with_reducible rfl))⟩) (by assumption) ?_
            simp only [Act.put, List.setIfInBounds_toArray, List.set_cons_zero, List.set_cons_succ]
            refine wpAnyH_ready (rs := [10]) (by kernel_rfl) (by simp) ?_
            refine AllReadyH.cons (o := { dst := some 13, op := Op.alloc 36, type := 0, pos := "exact.go:9073", after := #[], guard := none }) rfl (fun K hK => ?_) AllReadyH.nil
            have NE : Hid (∀ g, (Value.slice av LP.wh.length cv).ownBlock = some g → g ≠ x3.heap.size) := hide (fun g e => Nat.ne_of_lt ((unhide OV).lt g e).2)
            rw [if_pos (by rfl)]
            have HK := hide hK
            clear hK hHeld2
            go_wp2_with fail
            have zB : Hid (W5.heap.size ≤ x3.heap.size) := hide (unhide BB).size
            have BX := hide (V.RowIs.new x3 #[.string ⟨#[]⟩, .bool false, .int .i64 0, .int .i64 0, .int .i64 0, .string ⟨#[]⟩, .string ⟨#[]⟩, .string ⟨#[]⟩, .int .i64 0, .int .i64 0, .int .i64 0, .string ⟨#[]⟩, .string ⟨#[]⟩, .string ⟨#[]⟩, .int .i64 0, .int .i64 0, .int .i64 0, .string ⟨#[]⟩, .string ⟨#[]⟩, .string ⟨#[]⟩, .slice none 0 0] 36)
            replace BB := hide (bTr (unhide BB) (bAl (Below.refl _ _) (.cells #[.string ⟨#[]⟩, .bool false, .int .i64 0, .int .i64 0, .int .i64 0, .string ⟨#[]⟩, .string ⟨#[]⟩, .string ⟨#[]⟩, .int .i64 0, .int .i64 0, .int .i64 0, .string ⟨#[]⟩, .string ⟨#[]⟩, .string ⟨#[]⟩, .int .i64 0, .int .i64 0, .int .i64 0, .string ⟨#[]⟩, .string ⟨#[]⟩, .string ⟨#[]⟩, .slice none 0 0] 36)))
            try replace OV := hide (V.own_keepY (unhide OV) (bAl (Below.refl _ _) (.cells #[.string ⟨#[]⟩, .bool false, .int .i64 0, .int .i64 0, .int .i64 0, .string ⟨#[]⟩, .string ⟨#[]⟩, .string ⟨#[]⟩, .int .i64 0, .int .i64 0, .int .i64 0, .string ⟨#[]⟩, .string ⟨#[]⟩, .string ⟨#[]⟩, .int .i64 0, .int .i64 0, .int .i64 0, .string ⟨#[]⟩, .string ⟨#[]⟩, .string ⟨#[]⟩, .slice none 0 0] 36)))
            refine (unhide HK).out _ _ (by exact ⟨(unhide Q3).keep (unhide BB), (unhide QX).keep (unhide BB)⟩) (fun hHeld2 => ?_)
            clear HK
            try simp only [Act.put, List.setIfInBounds_toArray, List.set_cons_zero, List.set_cons_succ]
            refine wpAnyH_ready (rs := [11]) (by kernel_rfl) (by simp) ?_
            refine AllReadyH.cons (o := { dst := none, op := Op.store 36 (Operand.tmp 13) (Operand.tmp 59), type := 0, pos := "exact.go:9073", after := #[{ on := 10, ground := Ground.data }, { on := 8, ground := Ground.data }, { on := 6, ground := Ground.chain }, { on := 0, ground := Ground.phase }, { on := 1, ground := Ground.phase }, { on := 2, ground := Ground.phase }, { on := 3, ground := Ground.phase }, { on := 4, ground := Ground.phase }, { on := 5, ground := Ground.phase }, { on := 6, ground := Ground.phase }, { on := 7, ground := Ground.phase }, { on := 8, ground := Ground.phase }, { on := 9, ground := Ground.textOnly Departure.lateStores }, { on := 10, ground := Ground.phase }], guard := none }) rfl (fun K hK => ?_) AllReadyH.nil
            rw [if_pos (by rfl)]
            refine wp_store_row 36 _ _ rfl (x3.heap.size) (V.polRow LP (.slice av LP.wh.length cv)) rfl rfl 36 _ (unhide BX) (by kernel_rfl) rfl (by simp [Value.oneCell']) ?_
            have MP := hide (V.MadeP.made (L := LP) (unhide BX) (unhide OV) (unhide zB) (unhide NE))
            replace BB := hide (V.bRow (unhide BB) (unhide zB) (V.polRow LP (.slice av LP.wh.length cv)))
            clear hHeld2
            refine hK.out _ _ (by exact ⟨(unhide Q3).keep (unhide BB), (unhide QX).keep (unhide BB)⟩) (fun hHeld2 => ?_)
            clear hK
            simp only [Act.put, List.setIfInBounds_toArray, List.set_cons_zero, List.set_cons_succ]
            refine wpAnyH_ready (rs := [12]) (by kernel_rfl) (by simp) ?_
            refine AllReadyH.cons (o := { dst := some 14, op := Op.assign (Operand.tmp 60), type := 4, pos := "exact.go:9073", after := #[{ on := 9, ground := Ground.data }, { on := 11, ground := Ground.chain }, { on := 0, ground := Ground.phase }, { on := 1, ground := Ground.phase }, { on := 2, ground := Ground.phase }, { on := 3, ground := Ground.phase }, { on := 4, ground := Ground.phase }, { on := 5, ground := Ground.phase }, { on := 6, ground := Ground.phase }, { on := 7, ground := Ground.phase }, { on := 8, ground := Ground.phase }, { on := 9, ground := Ground.phase }, { on := 10, ground := Ground.phase }, { on := 11, ground := Ground.phase }], guard := none }) rfl (fun K hK => ?_) AllReadyH.nil
            rw [if_pos (by rfl)]
            have HK := hide hK
            clear hK hHeld2
            go_wp2_with fail
            refine (unhide HK).out _ _ (by exact ⟨(unhide Q3).keep (unhide BB), (unhide QX).keep (unhide BB)⟩) (fun hHeld3 => ?_)
            clear HK hHeld3
            refine wpAnyH_done (by kernel_rfl) ?_ _
            go_wp2_with fail
            go_meet
            case rel => exact ⟨x3.heap.size, av, cv, rfl, rfl, MP, BB⟩
          rw [if_pos (by rfl)]
          have HK := hide hK
          clear hK hHeld2
          go_wp2_with fail
          have zB : Hid (W5.heap.size ≤ x2.heap.size) := hide (unhide BB).size
          have BX := hide (V.RowIs.new x2 #[.string ⟨#[]⟩, .bool false, .int .i64 0, .int .i64 0, .int .i64 0, .string ⟨#[]⟩, .string ⟨#[]⟩, .string ⟨#[]⟩, .int .i64 0, .int .i64 0, .int .i64 0, .string ⟨#[]⟩, .string ⟨#[]⟩, .string ⟨#[]⟩, .int .i64 0, .int .i64 0, .int .i64 0, .string ⟨#[]⟩, .string ⟨#[]⟩, .string ⟨#[]⟩, .slice none 0 0] 36)
          replace BB := hide (bTr (unhide BB) (bAl (Below.refl _ _) (.cells #[.string ⟨#[]⟩, .bool false, .int .i64 0, .int .i64 0, .int .i64 0, .string ⟨#[]⟩, .string ⟨#[]⟩, .string ⟨#[]⟩, .int .i64 0, .int .i64 0, .int .i64 0, .string ⟨#[]⟩, .string ⟨#[]⟩, .string ⟨#[]⟩, .int .i64 0, .int .i64 0, .int .i64 0, .string ⟨#[]⟩, .string ⟨#[]⟩, .string ⟨#[]⟩, .slice none 0 0] 36)))
          try replace OV := hide (V.own_keepY (unhide OV) (bAl (Below.refl _ _) (.cells #[.string ⟨#[]⟩, .bool false, .int .i64 0, .int .i64 0, .int .i64 0, .string ⟨#[]⟩, .string ⟨#[]⟩, .string ⟨#[]⟩, .int .i64 0, .int .i64 0, .int .i64 0, .string ⟨#[]⟩, .string ⟨#[]⟩, .string ⟨#[]⟩, .int .i64 0, .int .i64 0, .int .i64 0, .string ⟨#[]⟩, .string ⟨#[]⟩, .string ⟨#[]⟩, .slice none 0 0] 36)))
          refine (unhide HK).out _ _ (by exact ⟨(unhide Q3).keep (unhide BB), (unhide QX).keep (unhide BB)⟩) (fun hHeld2 => ?_)
          clear HK
          try simp only [Act.put, List.setIfInBounds_toArray, List.set_cons_zero, List.set_cons_succ]
          refine wpAnyH_ready (rs := [6]) (by kernel_rfl) (by simp) ?_
          refine AllReadyH.cons (o := { dst := some 58, op := Op.call { callee := Callee.value (Operand.func 9), args := #[Operand.tmp 52, Operand.tmp 53, Operand.tmp 55, Operand.tmp 57], argTypes := #[36, 9, 31, 31] }, type := 37, pos := "exact.go:9073", after := #[{ on := 0, ground := Ground.data }, { on := 1, ground := Ground.data }, { on := 3, ground := Ground.data }, { on := 5, ground := Ground.data }, { on := 5, ground := Ground.chain }], guard := none }) rfl (fun K hK => ?_) AllReadyH.nil
          refine V.step_call4 _ (by rfl) 9 _ _ _ _ _ (by rfl) (V.polAgg P (.slice (some ⟨b4, 0, none⟩) len len)) (.string id) (.agg #[.int .i64 pr.x, .int .i64 pr.n, .string pr.t, .string pr.y]) (.agg #[.int .i64 re.x, .int .i64 re.n, .string re.t, .string re.y]) (by rfl) (by rfl) (by rfl) (by rfl) V.ent_impl (unhide qi b4 _ ((unhide SX).keep (unhide BB))) ?_
          rintro e x4 ⟨⟨v, rfl, ov⟩, hb⟩
          obtain ⟨av, cv, rfl, _⟩ := V.own_Expr ov
          have OV := hide (V.own_loY ov (unhide BB).size)
          have NE : Hid (∀ g, (Value.slice av LP.wh.length cv).ownBlock = some g → g ≠ x2.heap.size) := hide (fun g e => by have h1 := (ov.lt g e).1; have h2 := (unhide BX).lt; omega)
          replace BX := hide ((unhide BX).keep hb)
          replace BB := hide (bTr (unhide BB) hb)
          clear hb ov
          clear hHeld2
          refine ⟨_, rfl, ?_⟩
          refine hK.out _ _ (by exact ⟨(unhide Q3).keep (unhide BB), (unhide QX).keep (unhide BB)⟩) (fun hHeld2 => ?_)
          clear hK
          simp only [Act.put, List.setIfInBounds_toArray, List.set_cons_zero, List.set_cons_succ]
          refine wpAnyH_take (i := 7) (oi := { dst := some 51, op := Op.move (Operand.tmp 58), type := 37, pos := "exact.go:9073", after := #[{ on := 6, ground := Ground.data }], guard := none }) (v := .tuple #[V.polAgg LP (.slice av LP.wh.length cv), .bool ok]) rfl (by kernel_rfl) (by kernel_rfl) (by kernel_rfl) (fun _ _ _ h => h) (Or.inl ⟨by rfl, (by intro w hSw; (try go_simp); (try with_reducible rfl))⟩) (by assumption) ?_
          simp only [Act.put, List.setIfInBounds_toArray, List.set_cons_zero, List.set_cons_succ]
          refine wpAnyH_take (i := 8) (oi := { dst := some 59, op := Op.extract (Operand.tmp 51) 0, type := 36, pos := "exact.go:9073", after := #[{ on := 7, ground := Ground.data }], guard := none }) (v := V.polAgg LP (.slice av LP.wh.length cv)) rfl (by kernel_rfl) (by kernel_rfl) (by kernel_rfl) (fun _ _ _ h => h) (Or.inl ⟨by rfl, (by intro w hSw; (try go_simp); (try with_reducible rfl))⟩) (by assumption) ?_
          simp only [Act.put, List.setIfInBounds_toArray, List.set_cons_zero, List.set_cons_succ]
          refine wpAnyH_take (i := 9) (oi := { dst := some 60, op := Op.extract (Operand.tmp 51) 1, type := 4, pos := "exact.go:9073", after := #[{ on := 7, ground := Ground.data }, { on := 11, ground := Ground.gcOnly Departure.lateStores }], guard := none }) (v := .bool ok) rfl (by kernel_rfl) (by kernel_rfl) (by kernel_rfl) (fun _ _ _ h => h) (Or.inl ⟨by rfl, (by intro w hSw; (try go_simp); (try with_reducible rfl))⟩) (by assumption) ?_
          simp only [Act.put, List.setIfInBounds_toArray, List.set_cons_zero, List.set_cons_succ]
          refine wpAnyH_ready (rs := [11]) (by kernel_rfl) (by simp) ?_
          refine AllReadyH.cons (o := { dst := none, op := Op.store 36 (Operand.tmp 13) (Operand.tmp 59), type := 0, pos := "exact.go:9073", after := #[{ on := 10, ground := Ground.data }, { on := 8, ground := Ground.data }, { on := 6, ground := Ground.chain }, { on := 0, ground := Ground.phase }, { on := 1, ground := Ground.phase }, { on := 2, ground := Ground.phase }, { on := 3, ground := Ground.phase }, { on := 4, ground := Ground.phase }, { on := 5, ground := Ground.phase }, { on := 6, ground := Ground.phase }, { on := 7, ground := Ground.phase }, { on := 8, ground := Ground.phase }, { on := 9, ground := Ground.textOnly Departure.lateStores }, { on := 10, ground := Ground.phase }], guard := none }) rfl (fun K hK => ?_) AllReadyH.nil
          rw [if_pos (by rfl)]
          refine wp_store_row 36 _ _ rfl (x2.heap.size) (V.polRow LP (.slice av LP.wh.length cv)) rfl rfl 36 _ (unhide BX) (by kernel_rfl) rfl (by simp [Value.oneCell']) ?_
          have MP := hide (V.MadeP.made (L := LP) (unhide BX) (unhide OV) (unhide zB) (unhide NE))
          replace BB := hide (V.bRow (unhide BB) (unhide zB) (V.polRow LP (.slice av LP.wh.length cv)))
          clear hHeld2
          refine hK.out _ _ (by exact ⟨(unhide Q3).keep (unhide BB), (unhide QX).keep (unhide BB)⟩) (fun hHeld2 => ?_)
          clear hK
          simp only [Act.put, List.setIfInBounds_toArray, List.set_cons_zero, List.set_cons_succ]
          refine wpAnyH_ready (rs := [12]) (by kernel_rfl) (by simp) ?_
          refine AllReadyH.cons (o := { dst := some 14, op := Op.assign (Operand.tmp 60), type := 4, pos := "exact.go:9073", after := #[{ on := 9, ground := Ground.data }, { on := 11, ground := Ground.chain }, { on := 0, ground := Ground.phase }, { on := 1, ground := Ground.phase }, { on := 2, ground := Ground.phase }, { on := 3, ground := Ground.phase }, { on := 4, ground := Ground.phase }, { on := 5, ground := Ground.phase }, { on := 6, ground := Ground.phase }, { on := 7, ground := Ground.phase }, { on := 8, ground := Ground.phase }, { on := 9, ground := Ground.phase }, { on := 10, ground := Ground.phase }, { on := 11, ground := Ground.phase }], guard := none }) rfl (fun K hK => ?_) AllReadyH.nil
          rw [if_pos (by rfl)]
          have HK := hide hK
          clear hK hHeld2
          go_wp2_with fail
          refine (unhide HK).out _ _ (by exact ⟨(unhide Q3).keep (unhide BB), (unhide QX).keep (unhide BB)⟩) (fun hHeld3 => ?_)
          clear HK hHeld3
          refine wpAnyH_done (by kernel_rfl) ?_ _
          go_wp2_with fail
          go_meet
          case rel => exact ⟨x2.heap.size, av, cv, rfl, rfl, MP, BB⟩
        rw [if_pos (by rfl)]
        have HK := hide hK
        clear hK hHeld2
        go_wp2_with fail
        have zB : Hid (W5.heap.size ≤ x1.heap.size) := hide (unhide BB).size
        have BX := hide (V.RowIs.new x1 #[.string ⟨#[]⟩, .bool false, .int .i64 0, .int .i64 0, .int .i64 0, .string ⟨#[]⟩, .string ⟨#[]⟩, .string ⟨#[]⟩, .int .i64 0, .int .i64 0, .int .i64 0, .string ⟨#[]⟩, .string ⟨#[]⟩, .string ⟨#[]⟩, .int .i64 0, .int .i64 0, .int .i64 0, .string ⟨#[]⟩, .string ⟨#[]⟩, .string ⟨#[]⟩, .slice none 0 0] 36)
        replace BB := hide (bTr (unhide BB) (bAl (Below.refl _ _) (.cells #[.string ⟨#[]⟩, .bool false, .int .i64 0, .int .i64 0, .int .i64 0, .string ⟨#[]⟩, .string ⟨#[]⟩, .string ⟨#[]⟩, .int .i64 0, .int .i64 0, .int .i64 0, .string ⟨#[]⟩, .string ⟨#[]⟩, .string ⟨#[]⟩, .int .i64 0, .int .i64 0, .int .i64 0, .string ⟨#[]⟩, .string ⟨#[]⟩, .string ⟨#[]⟩, .slice none 0 0] 36)))
        try replace OV := hide (V.own_keepY (unhide OV) (bAl (Below.refl _ _) (.cells #[.string ⟨#[]⟩, .bool false, .int .i64 0, .int .i64 0, .int .i64 0, .string ⟨#[]⟩, .string ⟨#[]⟩, .string ⟨#[]⟩, .int .i64 0, .int .i64 0, .int .i64 0, .string ⟨#[]⟩, .string ⟨#[]⟩, .string ⟨#[]⟩, .int .i64 0, .int .i64 0, .int .i64 0, .string ⟨#[]⟩, .string ⟨#[]⟩, .string ⟨#[]⟩, .slice none 0 0] 36)))
        refine (unhide HK).out _ _ (by exact ⟨(unhide Q3).keep (unhide BB), (unhide QX).keep (unhide BB)⟩) (fun hHeld2 => ?_)
        clear HK
        try simp only [Act.put, List.setIfInBounds_toArray, List.set_cons_zero, List.set_cons_succ]
        refine wpAnyH_ready (rs := [5]) (by kernel_rfl) (by simp) ?_
        refine AllReadyH.cons (o := { dst := some 57, op := Op.call { callee := Callee.value (Operand.func 8), args := #[Operand.tmp 56], argTypes := #[23] }, type := 31, pos := "exact.go:9073", after := #[{ on := 4, ground := Ground.data }, { on := 3, ground := Ground.chain }], guard := none }) rfl (fun K hK => ?_) AllReadyH.nil
        refine V.step_call1 _ (by rfl) 8 _ _ (by rfl) (.agg #[.int .i64 re.x, .int .i64 re.n, .string re.t, .string re.y]) (by rfl) V.ent_toAtom (unhide qtr _) ?_
        rintro e x5 ⟨rfl, hb⟩
        replace BX := hide ((unhide BX).keep hb)
        replace BB := hide (bTr (unhide BB) hb)
        clear hb
        clear hHeld2
        refine ⟨_, rfl, ?_⟩
        refine hK.out _ _ (by exact ⟨(unhide Q3).keep (unhide BB), (unhide QX).keep (unhide BB)⟩) (fun hHeld2 => ?_)
        clear hK
        simp only [Act.put, List.setIfInBounds_toArray, List.set_cons_zero, List.set_cons_succ]
        refine wpAnyH_ready (rs := [6]) (by kernel_rfl) (by simp) ?_
        refine AllReadyH.cons (o := { dst := some 58, op := Op.call { callee := Callee.value (Operand.func 9), args := #[Operand.tmp 52, Operand.tmp 53, Operand.tmp 55, Operand.tmp 57], argTypes := #[36, 9, 31, 31] }, type := 37, pos := "exact.go:9073", after := #[{ on := 0, ground := Ground.data }, { on := 1, ground := Ground.data }, { on := 3, ground := Ground.data }, { on := 5, ground := Ground.data }, { on := 5, ground := Ground.chain }], guard := none }) rfl (fun K hK => ?_) AllReadyH.nil
        refine V.step_call4 _ (by rfl) 9 _ _ _ _ _ (by rfl) (V.polAgg P (.slice (some ⟨b4, 0, none⟩) len len)) (.string id) (.agg #[.int .i64 pr.x, .int .i64 pr.n, .string pr.t, .string pr.y]) (.agg #[.int .i64 re.x, .int .i64 re.n, .string re.t, .string re.y]) (by rfl) (by rfl) (by rfl) (by rfl) V.ent_impl (unhide qi b4 _ ((unhide SX).keep (unhide BB))) ?_
        rintro e x6 ⟨⟨v, rfl, ov⟩, hb⟩
        obtain ⟨av, cv, rfl, _⟩ := V.own_Expr ov
        have OV := hide (V.own_loY ov (unhide BB).size)
        have NE : Hid (∀ g, (Value.slice av LP.wh.length cv).ownBlock = some g → g ≠ x1.heap.size) := hide (fun g e => by have h1 := (ov.lt g e).1; have h2 := (unhide BX).lt; omega)
        replace BX := hide ((unhide BX).keep hb)
        replace BB := hide (bTr (unhide BB) hb)
        clear hb ov
        clear hHeld2
        refine ⟨_, rfl, ?_⟩
        refine hK.out _ _ (by exact ⟨(unhide Q3).keep (unhide BB), (unhide QX).keep (unhide BB)⟩) (fun hHeld2 => ?_)
        clear hK
        simp only [Act.put, List.setIfInBounds_toArray, List.set_cons_zero, List.set_cons_succ]
        refine wpAnyH_take (i := 7) (oi := { dst := some 51, op := Op.move (Operand.tmp 58), type := 37, pos := "exact.go:9073", after := #[{ on := 6, ground := Ground.data }], guard := none }) (v := .tuple #[V.polAgg LP (.slice av LP.wh.length cv), .bool ok]) rfl (by kernel_rfl) (by kernel_rfl) (by kernel_rfl) (fun _ _ _ h => h) (Or.inl ⟨by rfl, (by intro w hSw; (try go_simp); (try with_reducible rfl))⟩) (by assumption) ?_
        simp only [Act.put, List.setIfInBounds_toArray, List.set_cons_zero, List.set_cons_succ]
        refine wpAnyH_take (i := 8) (oi := { dst := some 59, op := Op.extract (Operand.tmp 51) 0, type := 36, pos := "exact.go:9073", after := #[{ on := 7, ground := Ground.data }], guard := none }) (v := V.polAgg LP (.slice av LP.wh.length cv)) rfl (by kernel_rfl) (by kernel_rfl) (by kernel_rfl) (fun _ _ _ h => h) (Or.inl ⟨by rfl, (by intro w hSw; (try go_simp); (try with_reducible rfl))⟩) (by assumption) ?_
        simp only [Act.put, List.setIfInBounds_toArray, List.set_cons_zero, List.set_cons_succ]
        refine wpAnyH_take (i := 9) (oi := { dst := some 60, op := Op.extract (Operand.tmp 51) 1, type := 4, pos := "exact.go:9073", after := #[{ on := 7, ground := Ground.data }, { on := 11, ground := Ground.gcOnly Departure.lateStores }], guard := none }) (v := .bool ok) rfl (by kernel_rfl) (by kernel_rfl) (by kernel_rfl) (fun _ _ _ h => h) (Or.inl ⟨by rfl, (by intro w hSw; (try go_simp); (try with_reducible rfl))⟩) (by assumption) ?_
        simp only [Act.put, List.setIfInBounds_toArray, List.set_cons_zero, List.set_cons_succ]
        refine wpAnyH_ready (rs := [11]) (by kernel_rfl) (by simp) ?_
        refine AllReadyH.cons (o := { dst := none, op := Op.store 36 (Operand.tmp 13) (Operand.tmp 59), type := 0, pos := "exact.go:9073", after := #[{ on := 10, ground := Ground.data }, { on := 8, ground := Ground.data }, { on := 6, ground := Ground.chain }, { on := 0, ground := Ground.phase }, { on := 1, ground := Ground.phase }, { on := 2, ground := Ground.phase }, { on := 3, ground := Ground.phase }, { on := 4, ground := Ground.phase }, { on := 5, ground := Ground.phase }, { on := 6, ground := Ground.phase }, { on := 7, ground := Ground.phase }, { on := 8, ground := Ground.phase }, { on := 9, ground := Ground.textOnly Departure.lateStores }, { on := 10, ground := Ground.phase }], guard := none }) rfl (fun K hK => ?_) AllReadyH.nil
        rw [if_pos (by rfl)]
        refine wp_store_row 36 _ _ rfl (x1.heap.size) (V.polRow LP (.slice av LP.wh.length cv)) rfl rfl 36 _ (unhide BX) (by kernel_rfl) rfl (by simp [Value.oneCell']) ?_
        have MP := hide (V.MadeP.made (L := LP) (unhide BX) (unhide OV) (unhide zB) (unhide NE))
        replace BB := hide (V.bRow (unhide BB) (unhide zB) (V.polRow LP (.slice av LP.wh.length cv)))
        clear hHeld2
        refine hK.out _ _ (by exact ⟨(unhide Q3).keep (unhide BB), (unhide QX).keep (unhide BB)⟩) (fun hHeld2 => ?_)
        clear hK
        simp only [Act.put, List.setIfInBounds_toArray, List.set_cons_zero, List.set_cons_succ]
        refine wpAnyH_ready (rs := [12]) (by kernel_rfl) (by simp) ?_
        refine AllReadyH.cons (o := { dst := some 14, op := Op.assign (Operand.tmp 60), type := 4, pos := "exact.go:9073", after := #[{ on := 9, ground := Ground.data }, { on := 11, ground := Ground.chain }, { on := 0, ground := Ground.phase }, { on := 1, ground := Ground.phase }, { on := 2, ground := Ground.phase }, { on := 3, ground := Ground.phase }, { on := 4, ground := Ground.phase }, { on := 5, ground := Ground.phase }, { on := 6, ground := Ground.phase }, { on := 7, ground := Ground.phase }, { on := 8, ground := Ground.phase }, { on := 9, ground := Ground.phase }, { on := 10, ground := Ground.phase }, { on := 11, ground := Ground.phase }], guard := none }) rfl (fun K hK => ?_) AllReadyH.nil
        rw [if_pos (by rfl)]
        have HK := hide hK
        clear hK hHeld2
        go_wp2_with fail
        refine (unhide HK).out _ _ (by exact ⟨(unhide Q3).keep (unhide BB), (unhide QX).keep (unhide BB)⟩) (fun hHeld3 => ?_)
        clear HK hHeld3
        refine wpAnyH_done (by kernel_rfl) ?_ _
        go_wp2_with fail
        go_meet
        case rel => exact ⟨x1.heap.size, av, cv, rfl, rfl, MP, BB⟩
      rw [if_pos (by rfl)]
      have HK := hide hK
      clear hK hHeld
      go_wp2_with fail
      have zB : Hid (W5.heap.size ≤ W5.drew.heap.size) := hide (unhide BB).size
      have BX := hide (V.RowIs.new W5.drew #[.string ⟨#[]⟩, .bool false, .int .i64 0, .int .i64 0, .int .i64 0, .string ⟨#[]⟩, .string ⟨#[]⟩, .string ⟨#[]⟩, .int .i64 0, .int .i64 0, .int .i64 0, .string ⟨#[]⟩, .string ⟨#[]⟩, .string ⟨#[]⟩, .int .i64 0, .int .i64 0, .int .i64 0, .string ⟨#[]⟩, .string ⟨#[]⟩, .string ⟨#[]⟩, .slice none 0 0] 36)
      replace BB := hide (bTr (unhide BB) (bAl (Below.refl _ _) (.cells #[.string ⟨#[]⟩, .bool false, .int .i64 0, .int .i64 0, .int .i64 0, .string ⟨#[]⟩, .string ⟨#[]⟩, .string ⟨#[]⟩, .int .i64 0, .int .i64 0, .int .i64 0, .string ⟨#[]⟩, .string ⟨#[]⟩, .string ⟨#[]⟩, .int .i64 0, .int .i64 0, .int .i64 0, .string ⟨#[]⟩, .string ⟨#[]⟩, .string ⟨#[]⟩, .slice none 0 0] 36)))
      try replace OV := hide (V.own_keepY (unhide OV) (bAl (Below.refl _ _) (.cells #[.string ⟨#[]⟩, .bool false, .int .i64 0, .int .i64 0, .int .i64 0, .string ⟨#[]⟩, .string ⟨#[]⟩, .string ⟨#[]⟩, .int .i64 0, .int .i64 0, .int .i64 0, .string ⟨#[]⟩, .string ⟨#[]⟩, .string ⟨#[]⟩, .int .i64 0, .int .i64 0, .int .i64 0, .string ⟨#[]⟩, .string ⟨#[]⟩, .string ⟨#[]⟩, .slice none 0 0] 36)))
      refine (unhide HK).out _ _ (by exact ⟨(unhide Q3).keep (unhide BB), (unhide QX).keep (unhide BB)⟩) (fun hHeld2 => ?_)
      clear HK
      try simp only [Act.put, List.setIfInBounds_toArray, List.set_cons_zero, List.set_cons_succ]
      refine wpAnyH_ready (rs := [3]) (by kernel_rfl) (by simp) ?_
      refine AllReadyH.cons (o := { dst := some 55, op := Op.call { callee := Callee.value (Operand.func 8), args := #[Operand.tmp 54], argTypes := #[23] }, type := 31, pos := "exact.go:9073", after := #[{ on := 2, ground := Ground.data }], guard := none }) rfl (fun K hK => ?_) AllReadyH.nil
      refine V.step_call1 _ (by rfl) 8 _ _ (by rfl) (.agg #[.int .i64 pr.x, .int .i64 pr.n, .string pr.t, .string pr.y]) (by rfl) V.ent_toAtom (unhide qtp _) ?_
      rintro e x7 ⟨rfl, hb⟩
      replace BX := hide ((unhide BX).keep hb)
      replace BB := hide (bTr (unhide BB) hb)
      clear hb
      clear hHeld2
      refine ⟨_, rfl, ?_⟩
      refine hK.out _ _ (by exact ⟨(unhide Q3).keep (unhide BB), (unhide QX).keep (unhide BB)⟩) (fun hHeld2 => ?_)
      clear hK
      simp only [Act.put, List.setIfInBounds_toArray, List.set_cons_zero, List.set_cons_succ]
      refine wpAnyH_ready (rs := [5]) (by kernel_rfl) (by simp) ?_
      refine AllReadyH.cons (o := { dst := some 57, op := Op.call { callee := Callee.value (Operand.func 8), args := #[Operand.tmp 56], argTypes := #[23] }, type := 31, pos := "exact.go:9073", after := #[{ on := 4, ground := Ground.data }, { on := 3, ground := Ground.chain }], guard := none }) rfl (fun K hK => ?_) AllReadyH.nil
      refine V.step_call1 _ (by rfl) 8 _ _ (by rfl) (.agg #[.int .i64 re.x, .int .i64 re.n, .string re.t, .string re.y]) (by rfl) V.ent_toAtom (unhide qtr _) ?_
      rintro e x8 ⟨rfl, hb⟩
      replace BX := hide ((unhide BX).keep hb)
      replace BB := hide (bTr (unhide BB) hb)
      clear hb
      clear hHeld2
      refine ⟨_, rfl, ?_⟩
      refine hK.out _ _ (by exact ⟨(unhide Q3).keep (unhide BB), (unhide QX).keep (unhide BB)⟩) (fun hHeld2 => ?_)
      clear hK
      simp only [Act.put, List.setIfInBounds_toArray, List.set_cons_zero, List.set_cons_succ]
      refine wpAnyH_ready (rs := [6]) (by kernel_rfl) (by simp) ?_
      refine AllReadyH.cons (o := { dst := some 58, op := Op.call { callee := Callee.value (Operand.func 9), args := #[Operand.tmp 52, Operand.tmp 53, Operand.tmp 55, Operand.tmp 57], argTypes := #[36, 9, 31, 31] }, type := 37, pos := "exact.go:9073", after := #[{ on := 0, ground := Ground.data }, { on := 1, ground := Ground.data }, { on := 3, ground := Ground.data }, { on := 5, ground := Ground.data }, { on := 5, ground := Ground.chain }], guard := none }) rfl (fun K hK => ?_) AllReadyH.nil
      refine V.step_call4 _ (by rfl) 9 _ _ _ _ _ (by rfl) (V.polAgg P (.slice (some ⟨b4, 0, none⟩) len len)) (.string id) (.agg #[.int .i64 pr.x, .int .i64 pr.n, .string pr.t, .string pr.y]) (.agg #[.int .i64 re.x, .int .i64 re.n, .string re.t, .string re.y]) (by rfl) (by rfl) (by rfl) (by rfl) V.ent_impl (unhide qi b4 _ ((unhide SX).keep (unhide BB))) ?_
      rintro e x9 ⟨⟨v, rfl, ov⟩, hb⟩
      obtain ⟨av, cv, rfl, _⟩ := V.own_Expr ov
      have OV := hide (V.own_loY ov (unhide BB).size)
      have NE : Hid (∀ g, (Value.slice av LP.wh.length cv).ownBlock = some g → g ≠ W5.drew.heap.size) := hide (fun g e => by have h1 := (ov.lt g e).1; have h2 := (unhide BX).lt; omega)
      replace BX := hide ((unhide BX).keep hb)
      replace BB := hide (bTr (unhide BB) hb)
      clear hb ov
      clear hHeld2
      refine ⟨_, rfl, ?_⟩
      refine hK.out _ _ (by exact ⟨(unhide Q3).keep (unhide BB), (unhide QX).keep (unhide BB)⟩) (fun hHeld2 => ?_)
      clear hK
      simp only [Act.put, List.setIfInBounds_toArray, List.set_cons_zero, List.set_cons_succ]
      refine wpAnyH_take (i := 7) (oi := { dst := some 51, op := Op.move (Operand.tmp 58), type := 37, pos := "exact.go:9073", after := #[{ on := 6, ground := Ground.data }], guard := none }) (v := .tuple #[V.polAgg LP (.slice av LP.wh.length cv), .bool ok]) rfl (by kernel_rfl) (by kernel_rfl) (by kernel_rfl) (fun _ _ _ h => h) (Or.inl ⟨by rfl, (by intro w hSw; (try go_simp); (try with_reducible rfl))⟩) (by assumption) ?_
      simp only [Act.put, List.setIfInBounds_toArray, List.set_cons_zero, List.set_cons_succ]
      refine wpAnyH_take (i := 8) (oi := { dst := some 59, op := Op.extract (Operand.tmp 51) 0, type := 36, pos := "exact.go:9073", after := #[{ on := 7, ground := Ground.data }], guard := none }) (v := V.polAgg LP (.slice av LP.wh.length cv)) rfl (by kernel_rfl) (by kernel_rfl) (by kernel_rfl) (fun _ _ _ h => h) (Or.inl ⟨by rfl, (by intro w hSw; (try go_simp); (try with_reducible rfl))⟩) (by assumption) ?_
      simp only [Act.put, List.setIfInBounds_toArray, List.set_cons_zero, List.set_cons_succ]
      refine wpAnyH_take (i := 9) (oi := { dst := some 60, op := Op.extract (Operand.tmp 51) 1, type := 4, pos := "exact.go:9073", after := #[{ on := 7, ground := Ground.data }, { on := 11, ground := Ground.gcOnly Departure.lateStores }], guard := none }) (v := .bool ok) rfl (by kernel_rfl) (by kernel_rfl) (by kernel_rfl) (fun _ _ _ h => h) (Or.inl ⟨by rfl, (by intro w hSw; (try go_simp); (try with_reducible rfl))⟩) (by assumption) ?_
      simp only [Act.put, List.setIfInBounds_toArray, List.set_cons_zero, List.set_cons_succ]
      refine wpAnyH_ready (rs := [11]) (by kernel_rfl) (by simp) ?_
      refine AllReadyH.cons (o := { dst := none, op := Op.store 36 (Operand.tmp 13) (Operand.tmp 59), type := 0, pos := "exact.go:9073", after := #[{ on := 10, ground := Ground.data }, { on := 8, ground := Ground.data }, { on := 6, ground := Ground.chain }, { on := 0, ground := Ground.phase }, { on := 1, ground := Ground.phase }, { on := 2, ground := Ground.phase }, { on := 3, ground := Ground.phase }, { on := 4, ground := Ground.phase }, { on := 5, ground := Ground.phase }, { on := 6, ground := Ground.phase }, { on := 7, ground := Ground.phase }, { on := 8, ground := Ground.phase }, { on := 9, ground := Ground.textOnly Departure.lateStores }, { on := 10, ground := Ground.phase }], guard := none }) rfl (fun K hK => ?_) AllReadyH.nil
      rw [if_pos (by rfl)]
      refine wp_store_row 36 _ _ rfl (W5.drew.heap.size) (V.polRow LP (.slice av LP.wh.length cv)) rfl rfl 36 _ (unhide BX) (by kernel_rfl) rfl (by simp [Value.oneCell']) ?_
      have MP := hide (V.MadeP.made (L := LP) (unhide BX) (unhide OV) (unhide zB) (unhide NE))
      replace BB := hide (V.bRow (unhide BB) (unhide zB) (V.polRow LP (.slice av LP.wh.length cv)))
      clear hHeld2
      refine hK.out _ _ (by exact ⟨(unhide Q3).keep (unhide BB), (unhide QX).keep (unhide BB)⟩) (fun hHeld2 => ?_)
      clear hK
      simp only [Act.put, List.setIfInBounds_toArray, List.set_cons_zero, List.set_cons_succ]
      refine wpAnyH_ready (rs := [12]) (by kernel_rfl) (by simp) ?_
      refine AllReadyH.cons (o := { dst := some 14, op := Op.assign (Operand.tmp 60), type := 4, pos := "exact.go:9073", after := #[{ on := 9, ground := Ground.data }, { on := 11, ground := Ground.chain }, { on := 0, ground := Ground.phase }, { on := 1, ground := Ground.phase }, { on := 2, ground := Ground.phase }, { on := 3, ground := Ground.phase }, { on := 4, ground := Ground.phase }, { on := 5, ground := Ground.phase }, { on := 6, ground := Ground.phase }, { on := 7, ground := Ground.phase }, { on := 8, ground := Ground.phase }, { on := 9, ground := Ground.phase }, { on := 10, ground := Ground.phase }, { on := 11, ground := Ground.phase }], guard := none }) rfl (fun K hK => ?_) AllReadyH.nil
      rw [if_pos (by rfl)]
      have HK := hide hK
      clear hK hHeld2
      go_wp2_with fail
      refine (unhide HK).out _ _ (by exact ⟨(unhide Q3).keep (unhide BB), (unhide QX).keep (unhide BB)⟩) (fun hHeld3 => ?_)
      clear HK hHeld3
      refine wpAnyH_done (by kernel_rfl) ?_ _
      go_wp2_with fail
      go_meet
      case rel => exact ⟨W5.drew.heap.size, av, cv, rfl, rfl, MP, BB⟩
    case rest =>
      obtain ⟨S2, rfl⟩ : ∃ x, x = wc := ⟨wc, rfl⟩
      obtain ⟨bxg, ag, cg, rfl, rfl, MG, BG⟩ := hcut
      replace Q3 := hide ((unhide Q3).keep (unhide BG))
      replace MW := hide ((unhide MW).keep (unhide BG))
      replace QX := hide ((unhide QX).keep (unhide BG))
      replace RX := hide ((unhide RX).keep (unhide BG))
      replace SX := hide ((unhide SX).keep (unhide BG))
      replace B := hide (bTr (unhide B) (unhide BG))
      have z7 := hide (unhide BG).size
      clear BG
      have mL : LP.wh.length ≤ maxLen := by unfold maxLen; omega
      have ML2 := hide mL
      clear mL
      have ko : (ok != ok) = false := by simp
      go_upto_region 16 with fail
      go_step
      refine wpList_load_row rfl 36 _ rfl _ rfl 36 _ (0, 0) _ (unhide MG).row Try.underlying36 rfl (by kernel_rfl) ?_
      refine wpList_load_row rfl 36 _ rfl _ rfl 36 _ (0, 0) _ (unhide MW).row Try.underlying36 rfl (by kernel_rfl) ?_
      go_wp2_with fail
      refine (eqPolicy_same LP ag aw _ cg _ cw _ (unhide ML2) (V.sl_ownY (unhide MG).own) (V.sl_ownY (unhide MW).own)).mono ?_
      rintro e w6 ⟨rfl, hb6⟩
      replace Q3 := hide ((unhide Q3).keep hb6)
      replace MW := hide ((unhide MW).keep hb6)
      replace QX := hide ((unhide QX).keep hb6)
      replace RX := hide ((unhide RX).keep hb6)
      replace SX := hide ((unhide SX).keep hb6)
      replace MG := hide ((unhide MG).keep hb6)
      replace B := hide (bTr (unhide B) hb6)
      clear hb6
      go_wp2_with fail
      try simp only [Act.put, List.setIfInBounds_toArray, List.set_cons_zero, List.set_cons_succ]
      have BB : Hid (Below w6.heap.size w6 w6.drew) := hide (Below.refl _ _).drew
      refine wp_region_held_drew (S := fun w' => V.H3 P (.slice a len cap) pr re w.heap.size w' ∧ V.RowIs w' bx4 (V.polRow P (.slice (some ⟨b4, 0, none⟩) len len)) 36) (by kernel_rfl) (by exact ⟨(unhide Q3).keep (unhide BB), (unhide QX).keep (unhide BB)⟩) (fun hHeld => ?_)
      refine wpAnyH_take (i := 0) (oi := { dst := some 70, op := Op.load 36 (Operand.tmp 12), type := 36, pos := "exact.go:9077", after := #[], guard := none }) (v := .agg (V.polRow P (.slice (some ⟨b4, 0, none⟩) len len))) rfl (by kernel_rfl) (by kernel_rfl) (by kernel_rfl) (fun _ _ _ h => h) (V.yields_row (by rfl) 36 _ rfl bx4 rfl 36 _ _ (fun w h => h.2) Try.underlying36 rfl (by kernel_rfl)) (by assumption) ?_
      simp only [Act.put, List.setIfInBounds_toArray, List.set_cons_zero, List.set_cons_succ]
      refine wpAnyH_take (i := 1) (oi := { dst := some 71, op := Op.load 28 (Operand.tmp 4), type := 28, pos := "exact.go:9077", after := #[], guard := none }) (v := .agg (V.polRow P (.slice a len cap))) rfl (by kernel_rfl) (by kernel_rfl) (by kernel_rfl) (fun _ _ _ h => h) (V.yields_row (by rfl) 28 _ rfl w.heap.size rfl 28 _ _ (fun w h => h.1.p) Try.underlying28 rfl (by kernel_rfl)) (by assumption) ?_
      simp only [Act.put, List.setIfInBounds_toArray, List.set_cons_zero, List.set_cons_succ]
      refine wpAnyH_ready (rs := [2]) (by kernel_rfl) (by simp) ?_
      refine AllReadyH.cons (o := { dst := some 72, op := Op.call { callee := Callee.value (Operand.func 7), args := #[Operand.tmp 71], argTypes := #[28] }, type := 36, pos := "exact.go:9077", after := #[{ on := 1, ground := Ground.data }], guard := none }) rfl (fun K hK => ?_) AllReadyH.nil
      clear hHeld
      refine V.step_call1 _ (by rfl) 7 _ _ (by rfl) (V.polAgg P (.slice a len cap)) (by rfl) V.ent_toPolicy (unhide QT _ ((unhide HS).keep (bTr (unhide B) (unhide BB)))) ?_
      rintro e w7 ⟨b7, rfl, _, ⟨_, _, _, r7⟩, hb⟩
      replace r7 := hide r7
      replace BB := hide (bTr (unhide BB) hb)
      clear hb
      refine ⟨_, rfl, ?_⟩
      refine hK.out _ _ (by exact ⟨(unhide Q3).keep (unhide BB), (unhide QX).keep (unhide BB)⟩) (fun hHeld2 => ?_)
      clear hK hHeld2
      simp only [Act.put, List.setIfInBounds_toArray, List.set_cons_zero, List.set_cons_succ]
      refine wpAnyH_ready (rs := [3]) (by kernel_rfl) (by simp) ?_
      refine AllReadyH.cons (o := { dst := some 73, op := Op.call { callee := Callee.value (Operand.func 10), args := #[Operand.tmp 70, Operand.tmp 72], argTypes := #[36, 36] }, type := 4, pos := "exact.go:9077", after := #[{ on := 0, ground := Ground.data }, { on := 2, ground := Ground.data }, { on := 2, ground := Ground.chain }], guard := none }) rfl (fun K hK => ?_) AllReadyH.nil
      refine V.step_call2 _ (by rfl) 10 _ _ _ (by rfl) (V.polAgg P (.slice (some ⟨b4, 0, none⟩) len len)) (V.polAgg P (.slice (some ⟨b7, 0, none⟩) len len)) (by rfl) (by rfl) V.ent_eqPolicy (eqPolicy_same P (some ⟨b4, 0, none⟩) (some ⟨b7, 0, none⟩) len len len len _ (unhide ML) ((unhide SX).keep (unhide BB)) ⟨unhide hll, .inr ⟨b7, 0, rfl, unhide r7⟩⟩) ?_
      rintro e w8 ⟨rfl, hb⟩
      replace BB := hide (bTr (unhide BB) hb)
      clear hb r7
      refine ⟨_, rfl, ?_⟩
      refine hK.out _ _ (by exact ⟨(unhide Q3).keep (unhide BB), (unhide QX).keep (unhide BB)⟩) (fun hHeld2 => ?_)
      clear hK hHeld2
      simp only [Act.put, List.setIfInBounds_toArray, List.set_cons_zero, List.set_cons_succ]
      refine wpAnyH_ready (rs := [4]) (by kernel_rfl) (by simp) ?_
      refine AllReadyH.cons (o := { dst := some 74, op := Op.unOp UnOp.not 4 (Operand.tmp 73), type := 4, pos := "exact.go:9077", after := #[{ on := 3, ground := Ground.data }], guard := none }) rfl (fun K hK => ?_) AllReadyH.nil
      rw [if_pos (by rfl)]
      have HK := hide hK
      clear hK
      go_wp2_with fail
      refine (unhide HK).out _ _ (by exact ⟨(unhide Q3).keep (unhide BB), (unhide QX).keep (unhide BB)⟩) (fun hHeld2 => ?_)
      clear HK
      refine wpAnyH_done (by kernel_rfl) ?_ _
      clear hHeld2
      try simp only [Act.put, List.setIfInBounds_toArray, List.set_cons_zero, List.set_cons_succ]
      replace Q3 := hide ((unhide Q3).keep (unhide BB))
      replace MW := hide ((unhide MW).keep (unhide BB))
      replace QX := hide ((unhide QX).keep (unhide BB))
      replace RX := hide ((unhide RX).keep (unhide BB))
      replace MG := hide ((unhide MG).keep (unhide BB))
      replace B := hide (bTr (unhide B) (unhide BB))
      clear BB SX
      go_upto_region 21 with fail
      try simp only [Act.put, List.setIfInBounds_toArray, List.set_cons_zero, List.set_cons_succ]
      go_step
      refine wpList_load_row rfl 36 _ rfl _ rfl 36 _ (0, 0) _ (unhide QX) Try.underlying36 rfl (by kernel_rfl) ?_
      go_wp2_with fail
      refine (V.markPolicy_own P (.slice (some ⟨b4, 0, none⟩) len len) len 1 C4.toList 0 _ g1 (by omega) (by omega) (V.own_of_row (unhide RX) (unhide z5) (Nat.zero_le _) (unhide ML))).mono ?_
      rintro e w9 ⟨rfl, _, hg⟩
      have Z := hide (show w.heap.size + 3 ≤ b4 ∧ bxw < b4 ∧ (∀ g, (Value.slice aw LP.wh.length cw).ownBlock = some g → g < b4) from ⟨Nat.le_trans (unhide z1) (unhide z4), Nat.lt_of_lt_of_le (unhide LW).1 (unhide z4), fun g e => Nat.lt_of_lt_of_le ((unhide LW).2 g e).2 (unhide z4)⟩)
      have ZG := hide (show b4 < bxg ∧ (∀ g, (Value.slice ag LP.wh.length cg).ownBlock = some g → b4 < g) from ⟨Nat.lt_of_lt_of_le (unhide z6) (unhide MG).low, fun g e => Nat.lt_of_lt_of_le (unhide z6) ((unhide MG).lt.2 g e).1⟩)
      replace Q3 := hide ((unhide Q3).grown hg (fun k e => by obtain rfl : b4 = k := Option.some.inj e; exact (unhide Z).1))
      replace MW := hide ((unhide MW).grown hg (fun e => by have h : bxw = b4 := Option.some.inj e; have := (unhide Z).2.1; omega) (fun g e e2 => by have h : g = b4 := Option.some.inj e2; have := (unhide Z).2.2 g e; omega))
      replace MG := hide ((unhide MG).grown hg (fun e => by have h : bxg = b4 := Option.some.inj e; have := (unhide ZG).1; omega) (fun g e e2 => by have h : g = b4 := Option.some.inj e2; have := (unhide ZG).2 g e; omega))
      replace B := hide ((unhide B).grown hg (unhide B).size (fun k e => by obtain rfl : b4 = k := Option.some.inj e; have := (unhide Z).1; omega))
      clear hg RX QX
      obtain ⟨kk, hkk⟩ : ∃ kk : Nat, 1 + len * 7 = kk := ⟨_, rfl⟩
      rw [hkk]
      clear hkk
      have zk : decide (((kk : Nat) : Int) < 0) = false := by simp
      have zk2 : ¬ ((kk : Nat) : Int) < 0 := by omega
      go_upto_region 22 with fail
      try simp only [Act.put, List.setIfInBounds_toArray, List.set_cons_zero, List.set_cons_succ]
      go_step
      iterate 9 (try (first | go_values | go_skip | go_step | go_upon | go_simp))
      refine BigFrame.wpList_want (by first | rfl | (simp [Region.wanted, yielded]; done)) (fun K hK => ?_)
      refine wp_load_row 36 _ rfl _ rfl 36 _ (0, 0) _ (unhide MG).row Try.underlying36 rfl (by kernel_rfl) ?_
      refine hK _ _ ?_
      clear hK
      try simp only [Act.put, List.setIfInBounds_toArray, List.set_cons_zero, List.set_cons_succ]
      refine BigFrame.wpList_want (by first | rfl | (simp [Region.wanted, yielded]; done)) (fun K hK => ?_)
      refine wp_load_row 36 _ rfl _ rfl 36 _ (0, 0) _ (unhide MW).row Try.underlying36 rfl (by kernel_rfl) ?_
      refine hK _ _ ?_
      clear hK
      try simp only [Act.put, List.setIfInBounds_toArray, List.set_cons_zero, List.set_cons_succ]
      go_wp2_with fail
      refine (eqPolicy_same LP ag aw _ cg _ cw _ (unhide ML2) (V.sl_ownY (unhide MG).own) (V.sl_ownY (unhide MW).own)).mono ?_
      rintro e w10 ⟨rfl, hb⟩
      replace Q3 := hide ((unhide Q3).keep hb)
      replace MW := hide ((unhide MW).keep hb)
      replace MG := hide ((unhide MG).keep hb)
      replace B := hide (bTr (unhide B) hb)
      clear hb
      go_upto_region 25 with fail
      try simp only [Act.put, List.setIfInBounds_toArray, List.set_cons_zero, List.set_cons_succ]
      go_step
      refine wpList_load_row rfl 36 _ rfl _ rfl 36 _ (0, 0) _ (unhide MG).row Try.underlying36 rfl (by kernel_rfl) ?_
      go_wp2_with fail
      refine (V.markPolicy_own LP (.slice ag LP.wh.length cg) LP.wh.length 1 _ _ _ hLn (by omega) (by omega) (unhide MG).own).mono ?_
      rintro e w11 ⟨rfl, hm, hg⟩
      have MK := hide hm
      have GR := hide ((unhide MG).row.grownY hg (fun e => (unhide MG).ne bxg e.symm rfl))
      have zz := hide (show S1.heap.size < W5.heap.size from Nat.lt_of_le_of_lt (unhide z4) (unhide z6))
      replace Q3 := hide ((unhide Q3).grown hg (fun k e => by have h1 := ((unhide MG).lt.2 k e).1; have h2 := unhide zz; have h3 := unhide z1; omega))
      replace MW := hide ((unhide MW).grown hg (fun e => by have h1 := ((unhide MG).lt.2 bxw e.symm).1; have h2 := unhide zz; have h3 := (unhide LW).1; omega) (fun g e e2 => by have h1 := ((unhide MG).lt.2 g e2.symm).1; have h2 := unhide zz; have h3 := ((unhide LW).2 g e).2; omega))
      replace B := hide ((unhide B).grown hg (unhide B).size (fun k e => by have h1 := ((unhide MG).lt.2 k e).1; have h2 := unhide zz; have h3 := unhide z1; omega))
      clear hg hm MG
      have QH := hide (fun w hm => V.heldPolicy_own LP ag LP.wh.length cg 1 w hLn (by omega) (by omega) hm)
      obtain ⟨kq, hkq⟩ : ∃ q : Nat, 1 + LP.wh.length * 7 = q := ⟨_, rfl⟩
      rw [hkq] at QH ⊢
      clear hkq
      have zq : decide (((kq : Nat) : Int) < 0) = false := by simp
      have zq2 : ¬ ((kq : Nat) : Int) < 0 := by omega
      go_upto_region 27 with fail
      try simp only [Act.put, List.setIfInBounds_toArray, List.set_cons_zero, List.set_cons_succ]
      go_step
      refine wpList_load_row rfl 36 _ rfl _ rfl 36 _ (0, 0) _ (unhide GR) Try.underlying36 rfl (by kernel_rfl) ?_
      go_wp2_with fail
      refine (unhide QH _ (unhide MK)).mono ?_
      rintro e w12 ⟨rfl, hb⟩
      replace Q3 := hide ((unhide Q3).keep hb)
      replace MW := hide ((unhide MW).keep hb)
      replace MK := hide ((unhide MK).keep hb)
      replace GR := hide ((unhide GR).keep hb)
      replace B := hide (bTr (unhide B) hb)
      clear hb
      go_wp2_with fail
      try simp only [Act.put, List.setIfInBounds_toArray, List.set_cons_zero, List.set_cons_succ]
      go_cut [18, 19] from 20 (fun p c wx => ∃ (bx : Nat) (av : Option Addr) (cv : Nat), p = .pointer (some ⟨bx, 0, none⟩) ∧ c = .bool ok ∧ Hid (V.MadeP wx w12.heap.size LP bx (.slice av LP.wh.length cv)) ∧ Hid (Below w12.heap.size w12 wx))
      case first =>
        have BB : Hid (Below w12.heap.size w12 w12.drew) := hide (Below.refl _ _).drew
        refine wp_region_held_drew (S := (V.H3 P (.slice a len cap) pr re w.heap.size)) (by kernel_rfl) (by exact (unhide Q3).keep (unhide BB)) (fun hHeld => ?_)
        refine wpAnyH_take (i := 0) (oi := { dst := some 103, op := Op.load 28 (Operand.tmp 4), type := 28, pos := "exact.go:9095", after := #[], guard := none }) (v := .agg (V.polRow P (.slice a len cap))) rfl (by kernel_rfl) (by kernel_rfl) (by kernel_rfl) (fun _ _ _ h => h) (V.yields_row (by rfl) 28 _ rfl w.heap.size rfl 28 _ _ (fun w h => h.p) Try.underlying28 rfl (by kernel_rfl)) (by assumption) ?_
        simp only [Act.put, List.setIfInBounds_toArray, List.set_cons_zero, List.set_cons_succ]
        refine wpAnyH_take (i := 2) (oi := { dst := some 105, op := Op.move (Operand.tmp 1), type := 9, pos := "exact.go:9095", after := #[], guard := none }) (v := .string id) rfl (by kernel_rfl) (by kernel_rfl) (by kernel_rfl) (fun _ _ _ h => h) (Or.inl ⟨by rfl, (by intro w hSw; (try go_simp); (try with_reducible rfl))⟩) (by assumption) ?_
        simp only [Act.put, List.setIfInBounds_toArray, List.set_cons_zero, List.set_cons_succ]
        refine wpAnyH_take (i := 3) (oi := { dst := some 106, op := Op.load 23 (Operand.tmp 6), type := 23, pos := "exact.go:9095", after := #[], guard := none }) (v := .agg #[.int .i64 pr.x, .int .i64 pr.n, .string pr.t, .string pr.y]) rfl (by kernel_rfl) (by kernel_rfl) (by kernel_rfl) (fun _ _ _ h => h) (V.yields_row (by rfl) 23 _ rfl (w.heap.size + 1) rfl 23 _ _ (fun w h => h.r) Try.underlying23 rfl (by kernel_rfl)) (by assumption) ?_
        simp only [Act.put, List.setIfInBounds_toArray, List.set_cons_zero, List.set_cons_succ]
        refine wpAnyH_take (i := 5) (oi := { dst := some 108, op := Op.load 23 (Operand.tmp 7), type := 23, pos := "exact.go:9095", after := #[], guard := none }) (v := .agg #[.int .i64 re.x, .int .i64 re.n, .string re.t, .string re.y]) rfl (by kernel_rfl) (by kernel_rfl) (by kernel_rfl) (fun _ _ _ h => h) (V.yields_row (by rfl) 23 _ rfl (w.heap.size + 1 + 1) rfl 23 _ _ (fun w h => h.q) Try.underlying23 rfl (by kernel_rfl)) (by assumption) ?_
        simp only [Act.put, List.setIfInBounds_toArray, List.set_cons_zero, List.set_cons_succ]
        refine wpAnyH_ready (rs := [1, 11]) (by kernel_rfl) (by simp) ?_
        refine AllReadyH.cons (o := { dst := some 104, op := Op.call { callee := Callee.value (Operand.func 7), args := #[Operand.tmp 103], argTypes := #[28] }, type := 36, pos := "exact.go:9095", after := #[{ on := 0, ground := Ground.data }], guard := none }) rfl (fun K hK => ?_) (AllReadyH.cons (o := { dst := some 18, op := Op.alloc 36, type := 0, pos := "exact.go:9095", after := #[], guard := none }) rfl (fun K hK => ?_) AllReadyH.nil)
        focus
          refine V.step_call1 _ (by rfl) 7 _ _ (by rfl) (V.polAgg P (.slice a len cap)) (by rfl) V.ent_toPolicy (unhide QT _ ((unhide HS).keep (bTr (unhide B) (unhide BB)))) ?_
          rintro e x1 ⟨b2, rfl, _, ⟨_, _, _, r2⟩, hb⟩
          have SE : Hid (V.SlExpr x1 (some ⟨b2, 0, none⟩) len P.wh) := hide ⟨unhide hll, .inr ⟨b2, 0, rfl, r2⟩⟩
          replace BB := hide (bTr (unhide BB) hb)
          clear hb r2
          clear hHeld
          refine ⟨_, rfl, ?_⟩
          refine hK.out _ _ (by exact (unhide Q3).keep (unhide BB)) (fun hHeld2 => ?_)
          clear hK
          simp only [Act.put, List.setIfInBounds_toArray, List.set_cons_zero, List.set_cons_succ]
          refine wpAnyH_ready (rs := [4, 11]) (by kernel_rfl) (by simp) ?_
          refine AllReadyH.cons (o := { dst := some 107, op := Op.call { callee := Callee.value (Operand.func 8), args := #[Operand.tmp 106], argTypes := #[23] }, type := 31, pos := "exact.go:9095", after := #[{ on := 3, ground := Ground.data }, { on := 1, ground := Ground.chain }], guard := none }) rfl (fun K hK => ?_) (AllReadyH.cons (o := { dst := some 18, op := Op.alloc 36, type := 0, pos := "exact.go:9095", after := #[], guard := none }) rfl (fun K hK => ?_) AllReadyH.nil)
          focus
            refine V.step_call1 _ (by rfl) 8 _ _ (by rfl) (.agg #[.int .i64 pr.x, .int .i64 pr.n, .string pr.t, .string pr.y]) (by rfl) V.ent_toAtom (unhide qtp _) ?_
            rintro e x2 ⟨rfl, hb⟩
            replace SE := hide ((unhide SE).keep hb)
            replace BB := hide (bTr (unhide BB) hb)
            clear hb
            clear hHeld2
            refine ⟨_, rfl, ?_⟩
            refine hK.out _ _ (by exact (unhide Q3).keep (unhide BB)) (fun hHeld2 => ?_)
            clear hK
            simp only [Act.put, List.setIfInBounds_toArray, List.set_cons_zero, List.set_cons_succ]
            refine wpAnyH_ready (rs := [6, 11]) (by kernel_rfl) (by simp) ?_
            refine AllReadyH.cons (o := { dst := some 109, op := Op.call { callee := Callee.value (Operand.func 8), args := #[Operand.tmp 108], argTypes := #[23] }, type := 31, pos := "exact.go:9095", after := #[{ on := 5, ground := Ground.data }, { on := 4, ground := Ground.chain }], guard := none }) rfl (fun K hK => ?_) (AllReadyH.cons (o := { dst := some 18, op := Op.alloc 36, type := 0, pos := "exact.go:9095", after := #[], guard := none }) rfl (fun K hK => ?_) AllReadyH.nil)
            focus
              refine V.step_call1 _ (by rfl) 8 _ _ (by rfl) (.agg #[.int .i64 re.x, .int .i64 re.n, .string re.t, .string re.y]) (by rfl) V.ent_toAtom (unhide qtr _) ?_
              rintro e x3 ⟨rfl, hb⟩
              replace SE := hide ((unhide SE).keep hb)
              replace BB := hide (bTr (unhide BB) hb)
              clear hb
              clear hHeld2
              refine ⟨_, rfl, ?_⟩
              refine hK.out _ _ (by exact (unhide Q3).keep (unhide BB)) (fun hHeld2 => ?_)
              clear hK
              simp only [Act.put, List.setIfInBounds_toArray, List.set_cons_zero, List.set_cons_succ]
              refine wpAnyH_ready (rs := [7, 11]) (by kernel_rfl) (by simp) ?_
              refine AllReadyH.cons (o := { dst := some 110, op := Op.call { callee := Callee.value (Operand.func 9), args := #[Operand.tmp 104, Operand.tmp 105, Operand.tmp 107, Operand.tmp 109], argTypes := #[36, 9, 31, 31] }, type := 37, pos := "exact.go:9095", after := #[{ on := 1, ground := Ground.data }, { on := 2, ground := Ground.data }, { on := 4, ground := Ground.data }, { on := 6, ground := Ground.data }, { on := 6, ground := Ground.chain }], guard := none }) rfl (fun K hK => ?_) (AllReadyH.cons (o := { dst := some 18, op := Op.alloc 36, type := 0, pos := "exact.go:9095", after := #[], guard := none }) rfl (fun K hK => ?_) AllReadyH.nil)
              focus
                refine V.step_call4 _ (by rfl) 9 _ _ _ _ _ (by rfl) (V.polAgg P (.slice (some ⟨b2, 0, none⟩) len len)) (.string id) (.agg #[.int .i64 pr.x, .int .i64 pr.n, .string pr.t, .string pr.y]) (.agg #[.int .i64 re.x, .int .i64 re.n, .string re.t, .string re.y]) (by rfl) (by rfl) (by rfl) (by rfl) V.ent_impl (unhide qi b2 _ (unhide SE)) ?_
                rintro e x4 ⟨⟨v, rfl, ov⟩, hb⟩
                obtain ⟨av, cv, rfl, _⟩ := V.own_Expr ov
                have OV := hide (V.own_loY ov (unhide BB).size)
                replace BB := hide (bTr (unhide BB) hb)
                clear hb ov
                clear hHeld2
                refine ⟨_, rfl, ?_⟩
                refine hK.out _ _ (by exact (unhide Q3).keep (unhide BB)) (fun hHeld2 => ?_)
                clear hK
                simp only [Act.put, List.setIfInBounds_toArray, List.set_cons_zero, List.set_cons_succ]
                refine wpAnyH_take (i := 8) (oi := { dst := some 102, op := Op.move (Operand.tmp 110), type := 37, pos := "exact.go:9095", after := #[{ on := 7, ground := Ground.data }], guard := none }) (v := .tuple #[V.polAgg LP (.slice av LP.wh.length cv), .bool ok]) rfl (by kernel_rfl) (by kernel_rfl) (by kernel_rfl) (fun _ _ _ h => h) (Or.inl ⟨by rfl, (by intro w hSw; (try go_simp); (try with_reducible rfl))⟩) (by assumption) ?_
                simp only [Act.put, List.setIfInBounds_toArray, List.set_cons_zero, List.set_cons_succ]
                refine wpAnyH_take (i := 9) (oi := { dst := some 111, op := Op.extract (Operand.tmp 102) 0, type := 36, pos := "exact.go:9095", after := #[{ on := 8, ground := Ground.data }], guard := none }) (v := V.polAgg LP (.slice av LP.wh.length cv)) rfl (by kernel_rfl) (by kernel_rfl) (by kernel_rfl) (fun _ _ _ h => h) (Or.inl ⟨by rfl, (by intro w hSw; (try go_simp); (try with_reducible rfl))⟩) (by assumption) ?_
                simp only [Act.put, List.setIfInBounds_toArray, List.set_cons_zero, List.set_cons_succ]
                refine wpAnyH_take (i := 10) (oi := { dst := some 112, op := Op.extract (Operand.tmp 102) 1, type := 4, pos := "exact.go:9095", after := #[{ on := 8, ground := Ground.data }, { on := 12, ground := Ground.gcOnly Departure.lateStores }], guard := none }) (v := .bool ok) rfl (by kernel_rfl) (by kernel_rfl) (by kernel_rfl) (fun _ _ _ h => h) (Or.inl ⟨by rfl, (by intro w hSw; (try go_simp); (try with_reducible rfl))⟩) (by assumption) ?_
                simp only [Act.put, List.setIfInBounds_toArray, List.set_cons_zero, List.set_cons_succ]
                refine wpAnyH_ready (rs := [11]) (by kernel_rfl) (by simp) ?_
                refine AllReadyH.cons (o := { dst := some 18, op := Op.alloc 36, type := 0, pos := "exact.go:9095", after := #[], guard := none }) rfl (fun K hK => ?_) AllReadyH.nil
                have NE : Hid (∀ g, (Value.slice av LP.wh.length cv).ownBlock = some g → g ≠ x4.heap.size) := hide (fun g e => Nat.ne_of_lt ((unhide OV).lt g e).2)
                rw [if_pos (by rfl)]
                have HK := hide hK
                clear hK hHeld2
                go_wp2_with fail
                have zB : Hid (w12.heap.size ≤ x4.heap.size) := hide (unhide BB).size
                have BX := hide (V.RowIs.new x4 #[.string ⟨#[]⟩, .bool false, .int .i64 0, .int .i64 0, .int .i64 0, .string ⟨#[]⟩, .string ⟨#[]⟩, .string ⟨#[]⟩, .int .i64 0, .int .i64 0, .int .i64 0, .string ⟨#[]⟩, .string ⟨#[]⟩, .string ⟨#[]⟩, .int .i64 0, .int .i64 0, .int .i64 0, .string ⟨#[]⟩, .string ⟨#[]⟩, .string ⟨#[]⟩, .slice none 0 0] 36)
                replace BB := hide (bTr (unhide BB) (bAl (Below.refl _ _) (.cells #[.string ⟨#[]⟩, .bool false, .int .i64 0, .int .i64 0, .int .i64 0, .string ⟨#[]⟩, .string ⟨#[]⟩, .string ⟨#[]⟩, .int .i64 0, .int .i64 0, .int .i64 0, .string ⟨#[]⟩, .string ⟨#[]⟩, .string ⟨#[]⟩, .int .i64 0, .int .i64 0, .int .i64 0, .string ⟨#[]⟩, .string ⟨#[]⟩, .string ⟨#[]⟩, .slice none 0 0] 36)))
                try replace SE := hide ((unhide SE).keep (bAl (Below.refl _ _) (.cells #[.string ⟨#[]⟩, .bool false, .int .i64 0, .int .i64 0, .int .i64 0, .string ⟨#[]⟩, .string ⟨#[]⟩, .string ⟨#[]⟩, .int .i64 0, .int .i64 0, .int .i64 0, .string ⟨#[]⟩, .string ⟨#[]⟩, .string ⟨#[]⟩, .int .i64 0, .int .i64 0, .int .i64 0, .string ⟨#[]⟩, .string ⟨#[]⟩, .string ⟨#[]⟩, .slice none 0 0] 36)))
                try replace OV := hide (V.own_keepY (unhide OV) (bAl (Below.refl _ _) (.cells #[.string ⟨#[]⟩, .bool false, .int .i64 0, .int .i64 0, .int .i64 0, .string ⟨#[]⟩, .string ⟨#[]⟩, .string ⟨#[]⟩, .int .i64 0, .int .i64 0, .int .i64 0, .string ⟨#[]⟩, .string ⟨#[]⟩, .string ⟨#[]⟩, .int .i64 0, .int .i64 0, .int .i64 0, .string ⟨#[]⟩, .string ⟨#[]⟩, .string ⟨#[]⟩, .slice none 0 0] 36)))
                refine (unhide HK).out _ _ (by exact (unhide Q3).keep (unhide BB)) (fun hHeld2 => ?_)
                clear HK
                try simp only [Act.put, List.setIfInBounds_toArray, List.set_cons_zero, List.set_cons_succ]
                refine wpAnyH_ready (rs := [12]) (by kernel_rfl) (by simp) ?_
                refine AllReadyH.cons (o := { dst := none, op := Op.store 36 (Operand.tmp 18) (Operand.tmp 111), type := 0, pos := "exact.go:9095", after := #[{ on := 11, ground := Ground.data }, { on := 9, ground := Ground.data }, { on := 7, ground := Ground.chain }, { on := 0, ground := Ground.phase }, { on := 1, ground := Ground.phase }, { on := 2, ground := Ground.phase }, { on := 3, ground := Ground.phase }, { on := 4, ground := Ground.phase }, { on := 5, ground := Ground.phase }, { on := 6, ground := Ground.phase }, { on := 7, ground := Ground.phase }, { on := 8, ground := Ground.phase }, { on := 9, ground := Ground.phase }, { on := 10, ground := Ground.textOnly Departure.lateStores }, { on := 11, ground := Ground.phase }], guard := none }) rfl (fun K hK => ?_) AllReadyH.nil
                rw [if_pos (by rfl)]
                refine wp_store_row 36 _ _ rfl (x4.heap.size) (V.polRow LP (.slice av LP.wh.length cv)) rfl rfl 36 _ (unhide BX) (by kernel_rfl) rfl (by simp [Value.oneCell']) ?_
                have MP := hide (V.MadeP.made (L := LP) (unhide BX) (unhide OV) (unhide zB) (unhide NE))
                replace BB := hide (V.bRow (unhide BB) (unhide zB) (V.polRow LP (.slice av LP.wh.length cv)))
                clear hHeld2
                refine hK.out _ _ (by exact (unhide Q3).keep (unhide BB)) (fun hHeld2 => ?_)
                clear hK
                simp only [Act.put, List.setIfInBounds_toArray, List.set_cons_zero, List.set_cons_succ]
                refine wpAnyH_ready (rs := [13]) (by kernel_rfl) (by simp) ?_
                refine AllReadyH.cons (o := { dst := some 19, op := Op.assign (Operand.tmp 112), type := 4, pos := "exact.go:9095", after := #[{ on := 10, ground := Ground.data }, { on := 12, ground := Ground.chain }, { on := 0, ground := Ground.phase }, { on := 1, ground := Ground.phase }, { on := 2, ground := Ground.phase }, { on := 3, ground := Ground.phase }, { on := 4, ground := Ground.phase }, { on := 5, ground := Ground.phase }, { on := 6, ground := Ground.phase }, { on := 7, ground := Ground.phase }, { on := 8, ground := Ground.phase }, { on := 9, ground := Ground.phase }, { on := 10, ground := Ground.phase }, { on := 11, ground := Ground.phase }, { on := 12, ground := Ground.phase }], guard := none }) rfl (fun K hK => ?_) AllReadyH.nil
                rw [if_pos (by rfl)]
                have HK := hide hK
                clear hK hHeld2
                go_wp2_with fail
                refine (unhide HK).out _ _ (by exact (unhide Q3).keep (unhide BB)) (fun hHeld3 => ?_)
                clear HK hHeld3
                refine wpAnyH_done (by kernel_rfl) ?_ _
                go_wp2_with fail
                go_meet
                case rel => exact ⟨x4.heap.size, av, cv, rfl, rfl, MP, BB⟩
              rw [if_pos (by rfl)]
              have HK := hide hK
              clear hK hHeld2
              go_wp2_with fail
              have zB : Hid (w12.heap.size ≤ x3.heap.size) := hide (unhide BB).size
              have BX := hide (V.RowIs.new x3 #[.string ⟨#[]⟩, .bool false, .int .i64 0, .int .i64 0, .int .i64 0, .string ⟨#[]⟩, .string ⟨#[]⟩, .string ⟨#[]⟩, .int .i64 0, .int .i64 0, .int .i64 0, .string ⟨#[]⟩, .string ⟨#[]⟩, .string ⟨#[]⟩, .int .i64 0, .int .i64 0, .int .i64 0, .string ⟨#[]⟩, .string ⟨#[]⟩, .string ⟨#[]⟩, .slice none 0 0] 36)
              replace BB := hide (bTr (unhide BB) (bAl (Below.refl _ _) (.cells #[.string ⟨#[]⟩, .bool false, .int .i64 0, .int .i64 0, .int .i64 0, .string ⟨#[]⟩, .string ⟨#[]⟩, .string ⟨#[]⟩, .int .i64 0, .int .i64 0, .int .i64 0, .string ⟨#[]⟩, .string ⟨#[]⟩, .string ⟨#[]⟩, .int .i64 0, .int .i64 0, .int .i64 0, .string ⟨#[]⟩, .string ⟨#[]⟩, .string ⟨#[]⟩, .slice none 0 0] 36)))
              try replace SE := hide ((unhide SE).keep (bAl (Below.refl _ _) (.cells #[.string ⟨#[]⟩, .bool false, .int .i64 0, .int .i64 0, .int .i64 0, .string ⟨#[]⟩, .string ⟨#[]⟩, .string ⟨#[]⟩, .int .i64 0, .int .i64 0, .int .i64 0, .string ⟨#[]⟩, .string ⟨#[]⟩, .string ⟨#[]⟩, .int .i64 0, .int .i64 0, .int .i64 0, .string ⟨#[]⟩, .string ⟨#[]⟩, .string ⟨#[]⟩, .slice none 0 0] 36)))
              try replace OV := hide (V.own_keepY (unhide OV) (bAl (Below.refl _ _) (.cells #[.string ⟨#[]⟩, .bool false, .int .i64 0, .int .i64 0, .int .i64 0, .string ⟨#[]⟩, .string ⟨#[]⟩, .string ⟨#[]⟩, .int .i64 0, .int .i64 0, .int .i64 0, .string ⟨#[]⟩, .string ⟨#[]⟩, .string ⟨#[]⟩, .int .i64 0, .int .i64 0, .int .i64 0, .string ⟨#[]⟩, .string ⟨#[]⟩, .string ⟨#[]⟩, .slice none 0 0] 36)))
              refine (unhide HK).out _ _ (by exact (unhide Q3).keep (unhide BB)) (fun hHeld2 => ?_)
              clear HK
              try simp only [Act.put, List.setIfInBounds_toArray, List.set_cons_zero, List.set_cons_succ]
              refine wpAnyH_ready (rs := [7]) (by kernel_rfl) (by simp) ?_
              refine AllReadyH.cons (o := { dst := some 110, op := Op.call { callee := Callee.value (Operand.func 9), args := #[Operand.tmp 104, Operand.tmp 105, Operand.tmp 107, Operand.tmp 109], argTypes := #[36, 9, 31, 31] }, type := 37, pos := "exact.go:9095", after := #[{ on := 1, ground := Ground.data }, { on := 2, ground := Ground.data }, { on := 4, ground := Ground.data }, { on := 6, ground := Ground.data }, { on := 6, ground := Ground.chain }], guard := none }) rfl (fun K hK => ?_) AllReadyH.nil
              refine V.step_call4 _ (by rfl) 9 _ _ _ _ _ (by rfl) (V.polAgg P (.slice (some ⟨b2, 0, none⟩) len len)) (.string id) (.agg #[.int .i64 pr.x, .int .i64 pr.n, .string pr.t, .string pr.y]) (.agg #[.int .i64 re.x, .int .i64 re.n, .string re.t, .string re.y]) (by rfl) (by rfl) (by rfl) (by rfl) V.ent_impl (unhide qi b2 _ (unhide SE)) ?_
              rintro e x5 ⟨⟨v, rfl, ov⟩, hb⟩
              obtain ⟨av, cv, rfl, _⟩ := V.own_Expr ov
              have OV := hide (V.own_loY ov (unhide BB).size)
              have NE : Hid (∀ g, (Value.slice av LP.wh.length cv).ownBlock = some g → g ≠ x3.heap.size) := hide (fun g e => by have h1 := (ov.lt g e).1; have h2 := (unhide BX).lt; omega)
              replace BX := hide ((unhide BX).keep hb)
              replace BB := hide (bTr (unhide BB) hb)
              clear hb ov
              clear hHeld2
              refine ⟨_, rfl, ?_⟩
              refine hK.out _ _ (by exact (unhide Q3).keep (unhide BB)) (fun hHeld2 => ?_)
              clear hK
              simp only [Act.put, List.setIfInBounds_toArray, List.set_cons_zero, List.set_cons_succ]
              refine wpAnyH_take (i := 8) (oi := { dst := some 102, op := Op.move (Operand.tmp 110), type := 37, pos := "exact.go:9095", after := #[{ on := 7, ground := Ground.data }], guard := none }) (v := .tuple #[V.polAgg LP (.slice av LP.wh.length cv), .bool ok]) rfl (by kernel_rfl) (by kernel_rfl) (by kernel_rfl) (fun _ _ _ h => h) (Or.inl ⟨by rfl, (by intro w hSw; (try go_simp); (try with_reducible rfl))⟩) (by assumption) ?_
              simp only [Act.put, List.setIfInBounds_toArray, List.set_cons_zero, List.set_cons_succ]
              refine wpAnyH_take (i := 9) (oi := { dst := some 111, op := Op.extract (Operand.tmp 102) 0, type := 36, pos := "exact.go:9095", after := #[{ on := 8, ground := Ground.data }], guard := none }) (v := V.polAgg LP (.slice av LP.wh.length cv)) rfl (by kernel_rfl) (by kernel_rfl) (by kernel_rfl) (fun _ _ _ h => h) (Or.inl ⟨by rfl, (by intro w hSw; (try go_simp); (try with_reducible rfl))⟩) (by assumption) ?_
              simp only [Act.put, List.setIfInBounds_toArray, List.set_cons_zero, List.set_cons_succ]
              refine wpAnyH_take (i := 10) (oi := { dst := some 112, op := Op.extract (Operand.tmp 102) 1, type := 4, pos := "exact.go:9095", after := #[{ on := 8, ground := Ground.data }, { on := 12, ground := Ground.gcOnly Departure.lateStores }], guard := none }) (v := .bool ok) rfl (by kernel_rfl) (by kernel_rfl) (by kernel_rfl) (fun _ _ _ h => h) (Or.inl ⟨by rfl, (by intro w hSw; (try go_simp); (try with_reducible rfl))⟩) (by assumption) ?_
              simp only [Act.put, List.setIfInBounds_toArray, List.set_cons_zero, List.set_cons_succ]
              refine wpAnyH_ready (rs := [12]) (by kernel_rfl) (by simp) ?_
              refine AllReadyH.cons (o := { dst := none, op := Op.store 36 (Operand.tmp 18) (Operand.tmp 111), type := 0, pos := "exact.go:9095", after := #[{ on := 11, ground := Ground.data }, { on := 9, ground := Ground.data }, { on := 7, ground := Ground.chain }, { on := 0, ground := Ground.phase }, { on := 1, ground := Ground.phase }, { on := 2, ground := Ground.phase }, { on := 3, ground := Ground.phase }, { on := 4, ground := Ground.phase }, { on := 5, ground := Ground.phase }, { on := 6, ground := Ground.phase }, { on := 7, ground := Ground.phase }, { on := 8, ground := Ground.phase }, { on := 9, ground := Ground.phase }, { on := 10, ground := Ground.textOnly Departure.lateStores }, { on := 11, ground := Ground.phase }], guard := none }) rfl (fun K hK => ?_) AllReadyH.nil
              rw [if_pos (by rfl)]
              refine wp_store_row 36 _ _ rfl (x3.heap.size) (V.polRow LP (.slice av LP.wh.length cv)) rfl rfl 36 _ (unhide BX) (by kernel_rfl) rfl (by simp [Value.oneCell']) ?_
              have MP := hide (V.MadeP.made (L := LP) (unhide BX) (unhide OV) (unhide zB) (unhide NE))
              replace BB := hide (V.bRow (unhide BB) (unhide zB) (V.polRow LP (.slice av LP.wh.length cv)))
              clear hHeld2
              refine hK.out _ _ (by exact (unhide Q3).keep (unhide BB)) (fun hHeld2 => ?_)
              clear hK
              simp only [Act.put, List.setIfInBounds_toArray, List.set_cons_zero, List.set_cons_succ]
              refine wpAnyH_ready (rs := [13]) (by kernel_rfl) (by simp) ?_
              refine AllReadyH.cons (o := { dst := some 19, op := Op.assign (Operand.tmp 112), type := 4, pos := "exact.go:9095", after := #[{ on := 10, ground := Ground.data }, { on := 12, ground := Ground.chain }, { on := 0, ground := Ground.phase }, { on := 1, ground := Ground.phase }, { on := 2, ground := Ground.phase }, { on := 3, ground := Ground.phase }, { on := 4, ground := Ground.phase }, { on := 5, ground := Ground.phase }, { on := 6, ground := Ground.phase }, { on := 7, ground := Ground.phase }, { on := 8, ground := Ground.phase }, { on := 9, ground := Ground.phase }, { on := 10, ground := Ground.phase }, { on := 11, ground := Ground.phase }, { on := 12, ground := Ground.phase }], guard := none }) rfl (fun K hK => ?_) AllReadyH.nil
              rw [if_pos (by rfl)]
              have HK := hide hK
              clear hK hHeld2
              go_wp2_with fail
              refine (unhide HK).out _ _ (by exact (unhide Q3).keep (unhide BB)) (fun hHeld3 => ?_)
              clear HK hHeld3
              refine wpAnyH_done (by kernel_rfl) ?_ _
              go_wp2_with fail
              go_meet
              case rel => exact ⟨x3.heap.size, av, cv, rfl, rfl, MP, BB⟩
            rw [if_pos (by rfl)]
            have HK := hide hK
            clear hK hHeld2
            go_wp2_with fail
            have zB : Hid (w12.heap.size ≤ x2.heap.size) := hide (unhide BB).size
            have BX := hide (V.RowIs.new x2 #[.string ⟨#[]⟩, .bool false, .int .i64 0, .int .i64 0, .int .i64 0, .string ⟨#[]⟩, .string ⟨#[]⟩, .string ⟨#[]⟩, .int .i64 0, .int .i64 0, .int .i64 0, .string ⟨#[]⟩, .string ⟨#[]⟩, .string ⟨#[]⟩, .int .i64 0, .int .i64 0, .int .i64 0, .string ⟨#[]⟩, .string ⟨#[]⟩, .string ⟨#[]⟩, .slice none 0 0] 36)
            replace BB := hide (bTr (unhide BB) (bAl (Below.refl _ _) (.cells #[.string ⟨#[]⟩, .bool false, .int .i64 0, .int .i64 0, .int .i64 0, .string ⟨#[]⟩, .string ⟨#[]⟩, .string ⟨#[]⟩, .int .i64 0, .int .i64 0, .int .i64 0, .string ⟨#[]⟩, .string ⟨#[]⟩, .string ⟨#[]⟩, .int .i64 0, .int .i64 0, .int .i64 0, .string ⟨#[]⟩, .string ⟨#[]⟩, .string ⟨#[]⟩, .slice none 0 0] 36)))
            try replace SE := hide ((unhide SE).keep (bAl (Below.refl _ _) (.cells #[.string ⟨#[]⟩, .bool false, .int .i64 0, .int .i64 0, .int .i64 0, .string ⟨#[]⟩, .string ⟨#[]⟩, .string ⟨#[]⟩, .int .i64 0, .int .i64 0, .int .i64 0, .string ⟨#[]⟩, .string ⟨#[]⟩, .string ⟨#[]⟩, .int .i64 0, .int .i64 0, .int .i64 0, .string ⟨#[]⟩, .string ⟨#[]⟩, .string ⟨#[]⟩, .slice none 0 0] 36)))
            try replace OV := hide (V.own_keepY (unhide OV) (bAl (Below.refl _ _) (.cells #[.string ⟨#[]⟩, .bool false, .int .i64 0, .int .i64 0, .int .i64 0, .string ⟨#[]⟩, .string ⟨#[]⟩, .string ⟨#[]⟩, .int .i64 0, .int .i64 0, .int .i64 0, .string ⟨#[]⟩, .string ⟨#[]⟩, .string ⟨#[]⟩, .int .i64 0, .int .i64 0, .int .i64 0, .string ⟨#[]⟩, .string ⟨#[]⟩, .string ⟨#[]⟩, .slice none 0 0] 36)))
            refine (unhide HK).out _ _ (by exact (unhide Q3).keep (unhide BB)) (fun hHeld2 => ?_)
            clear HK
            try simp only [Act.put, List.setIfInBounds_toArray, List.set_cons_zero, List.set_cons_succ]
            refine wpAnyH_ready (rs := [6]) (by kernel_rfl) (by simp) ?_
            refine AllReadyH.cons (o := { dst := some 109, op := Op.call { callee := Callee.value (Operand.func 8), args := #[Operand.tmp 108], argTypes := #[23] }, type := 31, pos := "exact.go:9095", after := #[{ on := 5, ground := Ground.data }, { on := 4, ground := Ground.chain }], guard := none }) rfl (fun K hK => ?_) AllReadyH.nil
            refine V.step_call1 _ (by rfl) 8 _ _ (by rfl) (.agg #[.int .i64 re.x, .int .i64 re.n, .string re.t, .string re.y]) (by rfl) V.ent_toAtom (unhide qtr _) ?_
            rintro e x6 ⟨rfl, hb⟩
            replace BX := hide ((unhide BX).keep hb)
            replace SE := hide ((unhide SE).keep hb)
            replace BB := hide (bTr (unhide BB) hb)
            clear hb
            clear hHeld2
            refine ⟨_, rfl, ?_⟩
            refine hK.out _ _ (by exact (unhide Q3).keep (unhide BB)) (fun hHeld2 => ?_)
            clear hK
            simp only [Act.put, List.setIfInBounds_toArray, List.set_cons_zero, List.set_cons_succ]
            refine wpAnyH_ready (rs := [7]) (by kernel_rfl) (by simp) ?_
            refine AllReadyH.cons (o := { dst := some 110, op := Op.call { callee := Callee.value (Operand.func 9), args := #[Operand.tmp 104, Operand.tmp 105, Operand.tmp 107, Operand.tmp 109], argTypes := #[36, 9, 31, 31] }, type := 37, pos := "exact.go:9095", after := #[{ on := 1, ground := Ground.data }, { on := 2, ground := Ground.data }, { on := 4, ground := Ground.data }, { on := 6, ground := Ground.data }, { on := 6, ground := Ground.chain }], guard := none }) rfl (fun K hK => ?_) AllReadyH.nil
            refine V.step_call4 _ (by rfl) 9 _ _ _ _ _ (by rfl) (V.polAgg P (.slice (some ⟨b2, 0, none⟩) len len)) (.string id) (.agg #[.int .i64 pr.x, .int .i64 pr.n, .string pr.t, .string pr.y]) (.agg #[.int .i64 re.x, .int .i64 re.n, .string re.t, .string re.y]) (by rfl) (by rfl) (by rfl) (by rfl) V.ent_impl (unhide qi b2 _ (unhide SE)) ?_
            rintro e x7 ⟨⟨v, rfl, ov⟩, hb⟩
            obtain ⟨av, cv, rfl, _⟩ := V.own_Expr ov
            have OV := hide (V.own_loY ov (unhide BB).size)
            have NE : Hid (∀ g, (Value.slice av LP.wh.length cv).ownBlock = some g → g ≠ x2.heap.size) := hide (fun g e => by have h1 := (ov.lt g e).1; have h2 := (unhide BX).lt; omega)
            replace BX := hide ((unhide BX).keep hb)
            replace BB := hide (bTr (unhide BB) hb)
            clear hb ov
            clear hHeld2
            refine ⟨_, rfl, ?_⟩
            refine hK.out _ _ (by exact (unhide Q3).keep (unhide BB)) (fun hHeld2 => ?_)
            clear hK
            simp only [Act.put, List.setIfInBounds_toArray, List.set_cons_zero, List.set_cons_succ]
            refine wpAnyH_take (i := 8) (oi := { dst := some 102, op := Op.move (Operand.tmp 110), type := 37, pos := "exact.go:9095", after := #[{ on := 7, ground := Ground.data }], guard := none }) (v := .tuple #[V.polAgg LP (.slice av LP.wh.length cv), .bool ok]) rfl (by kernel_rfl) (by kernel_rfl) (by kernel_rfl) (fun _ _ _ h => h) (Or.inl ⟨by rfl, (by intro w hSw; (try go_simp); (try with_reducible rfl))⟩) (by assumption) ?_
            simp only [Act.put, List.setIfInBounds_toArray, List.set_cons_zero, List.set_cons_succ]
            refine wpAnyH_take (i := 9) (oi := { dst := some 111, op := Op.extract (Operand.tmp 102) 0, type := 36, pos := "exact.go:9095", after := #[{ on := 8, ground := Ground.data }], guard := none }) (v := V.polAgg LP (.slice av LP.wh.length cv)) rfl (by kernel_rfl) (by kernel_rfl) (by kernel_rfl) (fun _ _ _ h => h) (Or.inl ⟨by rfl, (by intro w hSw; (try go_simp); (try with_reducible rfl))⟩) (by assumption) ?_
            simp only [Act.put, List.setIfInBounds_toArray, List.set_cons_zero, List.set_cons_succ]
            refine wpAnyH_take (i := 10) (oi := { dst := some 112, op := Op.extract (Operand.tmp 102) 1, type := 4, pos := "exact.go:9095", after := #[{ on := 8, ground := Ground.data }, { on := 12, ground := Ground.gcOnly Departure.lateStores }], guard := none }) (v := .bool ok) rfl (by kernel_rfl) (by kernel_rfl) (by kernel_rfl) (fun _ _ _ h => h) (Or.inl ⟨by rfl, (by intro w hSw; (try go_simp); (try with_reducible rfl))⟩) (by assumption) ?_
            simp only [Act.put, List.setIfInBounds_toArray, List.set_cons_zero, List.set_cons_succ]
            refine wpAnyH_ready (rs := [12]) (by kernel_rfl) (by simp) ?_
            refine AllReadyH.cons (o := { dst := none, op := Op.store 36 (Operand.tmp 18) (Operand.tmp 111), type := 0, pos := "exact.go:9095", after := #[{ on := 11, ground := Ground.data }, { on := 9, ground := Ground.data }, { on := 7, ground := Ground.chain }, { on := 0, ground := Ground.phase }, { on := 1, ground := Ground.phase }, { on := 2, ground := Ground.phase }, { on := 3, ground := Ground.phase }, { on := 4, ground := Ground.phase }, { on := 5, ground := Ground.phase }, { on := 6, ground := Ground.phase }, { on := 7, ground := Ground.phase }, { on := 8, ground := Ground.phase }, { on := 9, ground := Ground.phase }, { on := 10, ground := Ground.textOnly Departure.lateStores }, { on := 11, ground := Ground.phase }], guard := none }) rfl (fun K hK => ?_) AllReadyH.nil
            rw [if_pos (by rfl)]
            refine wp_store_row 36 _ _ rfl (x2.heap.size) (V.polRow LP (.slice av LP.wh.length cv)) rfl rfl 36 _ (unhide BX) (by kernel_rfl) rfl (by simp [Value.oneCell']) ?_
            have MP := hide (V.MadeP.made (L := LP) (unhide BX) (unhide OV) (unhide zB) (unhide NE))
            replace BB := hide (V.bRow (unhide BB) (unhide zB) (V.polRow LP (.slice av LP.wh.length cv)))
            clear hHeld2
            refine hK.out _ _ (by exact (unhide Q3).keep (unhide BB)) (fun hHeld2 => ?_)
            clear hK
            simp only [Act.put, List.setIfInBounds_toArray, List.set_cons_zero, List.set_cons_succ]
            refine wpAnyH_ready (rs := [13]) (by kernel_rfl) (by simp) ?_
            refine AllReadyH.cons (o := { dst := some 19, op := Op.assign (Operand.tmp 112), type := 4, pos := "exact.go:9095", after := #[{ on := 10, ground := Ground.data }, { on := 12, ground := Ground.chain }, { on := 0, ground := Ground.phase }, { on := 1, ground := Ground.phase }, { on := 2, ground := Ground.phase }, { on := 3, ground := Ground.phase }, { on := 4, ground := Ground.phase }, { on := 5, ground := Ground.phase }, { on := 6, ground := Ground.phase }, { on := 7, ground := Ground.phase }, { on := 8, ground := Ground.phase }, { on := 9, ground := Ground.phase }, { on := 10, ground := Ground.phase }, { on := 11, ground := Ground.phase }, { on := 12, ground := Ground.phase }], guard := none }) rfl (fun K hK => ?_) AllReadyH.nil
            rw [if_pos (by rfl)]
            have HK := hide hK
            clear hK hHeld2
            go_wp2_with fail
            refine (unhide HK).out _ _ (by exact (unhide Q3).keep (unhide BB)) (fun hHeld3 => ?_)
            clear HK hHeld3
            refine wpAnyH_done (by kernel_rfl) ?_ _
            go_wp2_with fail
            go_meet
            case rel => exact ⟨x2.heap.size, av, cv, rfl, rfl, MP, BB⟩
          rw [if_pos (by rfl)]
          have HK := hide hK
          clear hK hHeld2
          go_wp2_with fail
          have zB : Hid (w12.heap.size ≤ x1.heap.size) := hide (unhide BB).size
          have BX := hide (V.RowIs.new x1 #[.string ⟨#[]⟩, .bool false, .int .i64 0, .int .i64 0, .int .i64 0, .string ⟨#[]⟩, .string ⟨#[]⟩, .string ⟨#[]⟩, .int .i64 0, .int .i64 0, .int .i64 0, .string ⟨#[]⟩, .string ⟨#[]⟩, .string ⟨#[]⟩, .int .i64 0, .int .i64 0, .int .i64 0, .string ⟨#[]⟩, .string ⟨#[]⟩, .string ⟨#[]⟩, .slice none 0 0] 36)
          replace BB := hide (bTr (unhide BB) (bAl (Below.refl _ _) (.cells #[.string ⟨#[]⟩, .bool false, .int .i64 0, .int .i64 0, .int .i64 0, .string ⟨#[]⟩, .string ⟨#[]⟩, .string ⟨#[]⟩, .int .i64 0, .int .i64 0, .int .i64 0, .string ⟨#[]⟩, .string ⟨#[]⟩, .string ⟨#[]⟩, .int .i64 0, .int .i64 0, .int .i64 0, .string ⟨#[]⟩, .string ⟨#[]⟩, .string ⟨#[]⟩, .slice none 0 0] 36)))
          try replace SE := hide ((unhide SE).keep (bAl (Below.refl _ _) (.cells #[.string ⟨#[]⟩, .bool false, .int .i64 0, .int .i64 0, .int .i64 0, .string ⟨#[]⟩, .string ⟨#[]⟩, .string ⟨#[]⟩, .int .i64 0, .int .i64 0, .int .i64 0, .string ⟨#[]⟩, .string ⟨#[]⟩, .string ⟨#[]⟩, .int .i64 0, .int .i64 0, .int .i64 0, .string ⟨#[]⟩, .string ⟨#[]⟩, .string ⟨#[]⟩, .slice none 0 0] 36)))
          try replace OV := hide (V.own_keepY (unhide OV) (bAl (Below.refl _ _) (.cells #[.string ⟨#[]⟩, .bool false, .int .i64 0, .int .i64 0, .int .i64 0, .string ⟨#[]⟩, .string ⟨#[]⟩, .string ⟨#[]⟩, .int .i64 0, .int .i64 0, .int .i64 0, .string ⟨#[]⟩, .string ⟨#[]⟩, .string ⟨#[]⟩, .int .i64 0, .int .i64 0, .int .i64 0, .string ⟨#[]⟩, .string ⟨#[]⟩, .string ⟨#[]⟩, .slice none 0 0] 36)))
          refine (unhide HK).out _ _ (by exact (unhide Q3).keep (unhide BB)) (fun hHeld2 => ?_)
          clear HK
          try simp only [Act.put, List.setIfInBounds_toArray, List.set_cons_zero, List.set_cons_succ]
          refine wpAnyH_ready (rs := [4]) (by kernel_rfl) (by simp) ?_
          refine AllReadyH.cons (o := { dst := some 107, op := Op.call { callee := Callee.value (Operand.func 8), args := #[Operand.tmp 106], argTypes := #[23] }, type := 31, pos := "exact.go:9095", after := #[{ on := 3, ground := Ground.data }, { on := 1, ground := Ground.chain }], guard := none }) rfl (fun K hK => ?_) AllReadyH.nil
          refine V.step_call1 _ (by rfl) 8 _ _ (by rfl) (.agg #[.int .i64 pr.x, .int .i64 pr.n, .string pr.t, .string pr.y]) (by rfl) V.ent_toAtom (unhide qtp _) ?_
          rintro e x8 ⟨rfl, hb⟩
          replace BX := hide ((unhide BX).keep hb)
          replace SE := hide ((unhide SE).keep hb)
          replace BB := hide (bTr (unhide BB) hb)
          clear hb
          clear hHeld2
          refine ⟨_, rfl, ?_⟩
          refine hK.out _ _ (by exact (unhide Q3).keep (unhide BB)) (fun hHeld2 => ?_)
          clear hK
          simp only [Act.put, List.setIfInBounds_toArray, List.set_cons_zero, List.set_cons_succ]
          refine wpAnyH_ready (rs := [6]) (by kernel_rfl) (by simp) ?_
          refine AllReadyH.cons (o := { dst := some 109, op := Op.call { callee := Callee.value (Operand.func 8), args := #[Operand.tmp 108], argTypes := #[23] }, type := 31, pos := "exact.go:9095", after := #[{ on := 5, ground := Ground.data }, { on := 4, ground := Ground.chain }], guard := none }) rfl (fun K hK => ?_) AllReadyH.nil
          refine V.step_call1 _ (by rfl) 8 _ _ (by rfl) (.agg #[.int .i64 re.x, .int .i64 re.n, .string re.t, .string re.y]) (by rfl) V.ent_toAtom (unhide qtr _) ?_
          rintro e x9 ⟨rfl, hb⟩
          replace BX := hide ((unhide BX).keep hb)
          replace SE := hide ((unhide SE).keep hb)
          replace BB := hide (bTr (unhide BB) hb)
          clear hb
          clear hHeld2
          refine ⟨_, rfl, ?_⟩
          refine hK.out _ _ (by exact (unhide Q3).keep (unhide BB)) (fun hHeld2 => ?_)
          clear hK
          simp only [Act.put, List.setIfInBounds_toArray, List.set_cons_zero, List.set_cons_succ]
          refine wpAnyH_ready (rs := [7]) (by kernel_rfl) (by simp) ?_
          refine AllReadyH.cons (o := { dst := some 110, op := Op.call { callee := Callee.value (Operand.func 9), args := #[Operand.tmp 104, Operand.tmp 105, Operand.tmp 107, Operand.tmp 109], argTypes := #[36, 9, 31, 31] }, type := 37, pos := "exact.go:9095", after := #[{ on := 1, ground := Ground.data }, { on := 2, ground := Ground.data }, { on := 4, ground := Ground.data }, { on := 6, ground := Ground.data }, { on := 6, ground := Ground.chain }], guard := none }) rfl (fun K hK => ?_) AllReadyH.nil
          refine V.step_call4 _ (by rfl) 9 _ _ _ _ _ (by rfl) (V.polAgg P (.slice (some ⟨b2, 0, none⟩) len len)) (.string id) (.agg #[.int .i64 pr.x, .int .i64 pr.n, .string pr.t, .string pr.y]) (.agg #[.int .i64 re.x, .int .i64 re.n, .string re.t, .string re.y]) (by rfl) (by rfl) (by rfl) (by rfl) V.ent_impl (unhide qi b2 _ (unhide SE)) ?_
          rintro e x10 ⟨⟨v, rfl, ov⟩, hb⟩
          obtain ⟨av, cv, rfl, _⟩ := V.own_Expr ov
          have OV := hide (V.own_loY ov (unhide BB).size)
          have NE : Hid (∀ g, (Value.slice av LP.wh.length cv).ownBlock = some g → g ≠ x1.heap.size) := hide (fun g e => by have h1 := (ov.lt g e).1; have h2 := (unhide BX).lt; omega)
          replace BX := hide ((unhide BX).keep hb)
          replace BB := hide (bTr (unhide BB) hb)
          clear hb ov
          clear hHeld2
          refine ⟨_, rfl, ?_⟩
          refine hK.out _ _ (by exact (unhide Q3).keep (unhide BB)) (fun hHeld2 => ?_)
          clear hK
          simp only [Act.put, List.setIfInBounds_toArray, List.set_cons_zero, List.set_cons_succ]
          refine wpAnyH_take (i := 8) (oi := { dst := some 102, op := Op.move (Operand.tmp 110), type := 37, pos := "exact.go:9095", after := #[{ on := 7, ground := Ground.data }], guard := none }) (v := .tuple #[V.polAgg LP (.slice av LP.wh.length cv), .bool ok]) rfl (by kernel_rfl) (by kernel_rfl) (by kernel_rfl) (fun _ _ _ h => h) (Or.inl ⟨by rfl, (by intro w hSw; (try go_simp); (try with_reducible rfl))⟩) (by assumption) ?_
          simp only [Act.put, List.setIfInBounds_toArray, List.set_cons_zero, List.set_cons_succ]
          refine wpAnyH_take (i := 9) (oi := { dst := some 111, op := Op.extract (Operand.tmp 102) 0, type := 36, pos := "exact.go:9095", after := #[{ on := 8, ground := Ground.data }], guard := none }) (v := V.polAgg LP (.slice av LP.wh.length cv)) rfl (by kernel_rfl) (by kernel_rfl) (by kernel_rfl) (fun _ _ _ h => h) (Or.inl ⟨by rfl, (by intro w hSw; (try go_simp); (try with_reducible rfl))⟩) (by assumption) ?_
          simp only [Act.put, List.setIfInBounds_toArray, List.set_cons_zero, List.set_cons_succ]
          refine wpAnyH_take (i := 10) (oi := { dst := some 112, op := Op.extract (Operand.tmp 102) 1, type := 4, pos := "exact.go:9095", after := #[{ on := 8, ground := Ground.data }, { on := 12, ground := Ground.gcOnly Departure.lateStores }], guard := none }) (v := .bool ok) rfl (by kernel_rfl) (by kernel_rfl) (by kernel_rfl) (fun _ _ _ h => h) (Or.inl ⟨by rfl, (by intro w hSw; (try go_simp); (try with_reducible rfl))⟩) (by assumption) ?_
          simp only [Act.put, List.setIfInBounds_toArray, List.set_cons_zero, List.set_cons_succ]
          refine wpAnyH_ready (rs := [12]) (by kernel_rfl) (by simp) ?_
          refine AllReadyH.cons (o := { dst := none, op := Op.store 36 (Operand.tmp 18) (Operand.tmp 111), type := 0, pos := "exact.go:9095", after := #[{ on := 11, ground := Ground.data }, { on := 9, ground := Ground.data }, { on := 7, ground := Ground.chain }, { on := 0, ground := Ground.phase }, { on := 1, ground := Ground.phase }, { on := 2, ground := Ground.phase }, { on := 3, ground := Ground.phase }, { on := 4, ground := Ground.phase }, { on := 5, ground := Ground.phase }, { on := 6, ground := Ground.phase }, { on := 7, ground := Ground.phase }, { on := 8, ground := Ground.phase }, { on := 9, ground := Ground.phase }, { on := 10, ground := Ground.textOnly Departure.lateStores }, { on := 11, ground := Ground.phase }], guard := none }) rfl (fun K hK => ?_) AllReadyH.nil
          rw [if_pos (by rfl)]
          refine wp_store_row 36 _ _ rfl (x1.heap.size) (V.polRow LP (.slice av LP.wh.length cv)) rfl rfl 36 _ (unhide BX) (by kernel_rfl) rfl (by simp [Value.oneCell']) ?_
          have MP := hide (V.MadeP.made (L := LP) (unhide BX) (unhide OV) (unhide zB) (unhide NE))
          replace BB := hide (V.bRow (unhide BB) (unhide zB) (V.polRow LP (.slice av LP.wh.length cv)))
          clear hHeld2
          refine hK.out _ _ (by exact (unhide Q3).keep (unhide BB)) (fun hHeld2 => ?_)
          clear hK
          simp only [Act.put, List.setIfInBounds_toArray, List.set_cons_zero, List.set_cons_succ]
          refine wpAnyH_ready (rs := [13]) (by kernel_rfl) (by simp) ?_
          refine AllReadyH.cons (o := { dst := some 19, op := Op.assign (Operand.tmp 112), type := 4, pos := "exact.go:9095", after := #[{ on := 10, ground := Ground.data }, { on := 12, ground := Ground.chain }, { on := 0, ground := Ground.phase }, { on := 1, ground := Ground.phase }, { on := 2, ground := Ground.phase }, { on := 3, ground := Ground.phase }, { on := 4, ground := Ground.phase }, { on := 5, ground := Ground.phase }, { on := 6, ground := Ground.phase }, { on := 7, ground := Ground.phase }, { on := 8, ground := Ground.phase }, { on := 9, ground := Ground.phase }, { on := 10, ground := Ground.phase }, { on := 11, ground := Ground.phase }, { on := 12, ground := Ground.phase }], guard := none }) rfl (fun K hK => ?_) AllReadyH.nil
          rw [if_pos (by rfl)]
          have HK := hide hK
          clear hK hHeld2
          go_wp2_with fail
          refine (unhide HK).out _ _ (by exact (unhide Q3).keep (unhide BB)) (fun hHeld3 => ?_)
          clear HK hHeld3
          refine wpAnyH_done (by kernel_rfl) ?_ _
          go_wp2_with fail
          go_meet
          case rel => exact ⟨x1.heap.size, av, cv, rfl, rfl, MP, BB⟩
        rw [if_pos (by rfl)]
        have HK := hide hK
        clear hK hHeld
        go_wp2_with fail
        have zB : Hid (w12.heap.size ≤ w12.drew.heap.size) := hide (unhide BB).size
        have BX := hide (V.RowIs.new w12.drew #[.string ⟨#[]⟩, .bool false, .int .i64 0, .int .i64 0, .int .i64 0, .string ⟨#[]⟩, .string ⟨#[]⟩, .string ⟨#[]⟩, .int .i64 0, .int .i64 0, .int .i64 0, .string ⟨#[]⟩, .string ⟨#[]⟩, .string ⟨#[]⟩, .int .i64 0, .int .i64 0, .int .i64 0, .string ⟨#[]⟩, .string ⟨#[]⟩, .string ⟨#[]⟩, .slice none 0 0] 36)
        replace BB := hide (bTr (unhide BB) (bAl (Below.refl _ _) (.cells #[.string ⟨#[]⟩, .bool false, .int .i64 0, .int .i64 0, .int .i64 0, .string ⟨#[]⟩, .string ⟨#[]⟩, .string ⟨#[]⟩, .int .i64 0, .int .i64 0, .int .i64 0, .string ⟨#[]⟩, .string ⟨#[]⟩, .string ⟨#[]⟩, .int .i64 0, .int .i64 0, .int .i64 0, .string ⟨#[]⟩, .string ⟨#[]⟩, .string ⟨#[]⟩, .slice none 0 0] 36)))
        try replace SE := hide ((unhide SE).keep (bAl (Below.refl _ _) (.cells #[.string ⟨#[]⟩, .bool false, .int .i64 0, .int .i64 0, .int .i64 0, .string ⟨#[]⟩, .string ⟨#[]⟩, .string ⟨#[]⟩, .int .i64 0, .int .i64 0, .int .i64 0, .string ⟨#[]⟩, .string ⟨#[]⟩, .string ⟨#[]⟩, .int .i64 0, .int .i64 0, .int .i64 0, .string ⟨#[]⟩, .string ⟨#[]⟩, .string ⟨#[]⟩, .slice none 0 0] 36)))
        try replace OV := hide (V.own_keepY (unhide OV) (bAl (Below.refl _ _) (.cells #[.string ⟨#[]⟩, .bool false, .int .i64 0, .int .i64 0, .int .i64 0, .string ⟨#[]⟩, .string ⟨#[]⟩, .string ⟨#[]⟩, .int .i64 0, .int .i64 0, .int .i64 0, .string ⟨#[]⟩, .string ⟨#[]⟩, .string ⟨#[]⟩, .int .i64 0, .int .i64 0, .int .i64 0, .string ⟨#[]⟩, .string ⟨#[]⟩, .string ⟨#[]⟩, .slice none 0 0] 36)))
        refine (unhide HK).out _ _ (by exact (unhide Q3).keep (unhide BB)) (fun hHeld2 => ?_)
        clear HK
        try simp only [Act.put, List.setIfInBounds_toArray, List.set_cons_zero, List.set_cons_succ]
        refine wpAnyH_ready (rs := [1]) (by kernel_rfl) (by simp) ?_
        refine AllReadyH.cons (o := { dst := some 104, op := Op.call { callee := Callee.value (Operand.func 7), args := #[Operand.tmp 103], argTypes := #[28] }, type := 36, pos := "exact.go:9095", after := #[{ on := 0, ground := Ground.data }], guard := none }) rfl (fun K hK => ?_) AllReadyH.nil
        refine V.step_call1 _ (by rfl) 7 _ _ (by rfl) (V.polAgg P (.slice a len cap)) (by rfl) V.ent_toPolicy (unhide QT _ ((unhide HS).keep (bTr (unhide B) (unhide BB)))) ?_
        rintro e x11 ⟨b2, rfl, _, ⟨_, _, _, r2⟩, hb⟩
        have SE : Hid (V.SlExpr x11 (some ⟨b2, 0, none⟩) len P.wh) := hide ⟨unhide hll, .inr ⟨b2, 0, rfl, r2⟩⟩
        replace BX := hide ((unhide BX).keep hb)
        replace BB := hide (bTr (unhide BB) hb)
        clear hb r2
        clear hHeld2
        refine ⟨_, rfl, ?_⟩
        refine hK.out _ _ (by exact (unhide Q3).keep (unhide BB)) (fun hHeld2 => ?_)
        clear hK
        simp only [Act.put, List.setIfInBounds_toArray, List.set_cons_zero, List.set_cons_succ]
        refine wpAnyH_ready (rs := [4]) (by kernel_rfl) (by simp) ?_
        refine AllReadyH.cons (o := { dst := some 107, op := Op.call { callee := Callee.value (Operand.func 8), args := #[Operand.tmp 106], argTypes := #[23] }, type := 31, pos := "exact.go:9095", after := #[{ on := 3, ground := Ground.data }, { on := 1, ground := Ground.chain }], guard := none }) rfl (fun K hK => ?_) AllReadyH.nil
        refine V.step_call1 _ (by rfl) 8 _ _ (by rfl) (.agg #[.int .i64 pr.x, .int .i64 pr.n, .string pr.t, .string pr.y]) (by rfl) V.ent_toAtom (unhide qtp _) ?_
        rintro e x12 ⟨rfl, hb⟩
        replace BX := hide ((unhide BX).keep hb)
        replace SE := hide ((unhide SE).keep hb)
        replace BB := hide (bTr (unhide BB) hb)
        clear hb
        clear hHeld2
        refine ⟨_, rfl, ?_⟩
        refine hK.out _ _ (by exact (unhide Q3).keep (unhide BB)) (fun hHeld2 => ?_)
        clear hK
        simp only [Act.put, List.setIfInBounds_toArray, List.set_cons_zero, List.set_cons_succ]
        refine wpAnyH_ready (rs := [6]) (by kernel_rfl) (by simp) ?_
        refine AllReadyH.cons (o := { dst := some 109, op := Op.call { callee := Callee.value (Operand.func 8), args := #[Operand.tmp 108], argTypes := #[23] }, type := 31, pos := "exact.go:9095", after := #[{ on := 5, ground := Ground.data }, { on := 4, ground := Ground.chain }], guard := none }) rfl (fun K hK => ?_) AllReadyH.nil
        refine V.step_call1 _ (by rfl) 8 _ _ (by rfl) (.agg #[.int .i64 re.x, .int .i64 re.n, .string re.t, .string re.y]) (by rfl) V.ent_toAtom (unhide qtr _) ?_
        rintro e x13 ⟨rfl, hb⟩
        replace BX := hide ((unhide BX).keep hb)
        replace SE := hide ((unhide SE).keep hb)
        replace BB := hide (bTr (unhide BB) hb)
        clear hb
        clear hHeld2
        refine ⟨_, rfl, ?_⟩
        refine hK.out _ _ (by exact (unhide Q3).keep (unhide BB)) (fun hHeld2 => ?_)
        clear hK
        simp only [Act.put, List.setIfInBounds_toArray, List.set_cons_zero, List.set_cons_succ]
        refine wpAnyH_ready (rs := [7]) (by kernel_rfl) (by simp) ?_
        refine AllReadyH.cons (o := { dst := some 110, op := Op.call { callee := Callee.value (Operand.func 9), args := #[Operand.tmp 104, Operand.tmp 105, Operand.tmp 107, Operand.tmp 109], argTypes := #[36, 9, 31, 31] }, type := 37, pos := "exact.go:9095", after := #[{ on := 1, ground := Ground.data }, { on := 2, ground := Ground.data }, { on := 4, ground := Ground.data }, { on := 6, ground := Ground.data }, { on := 6, ground := Ground.chain }], guard := none }) rfl (fun K hK => ?_) AllReadyH.nil
        refine V.step_call4 _ (by rfl) 9 _ _ _ _ _ (by rfl) (V.polAgg P (.slice (some ⟨b2, 0, none⟩) len len)) (.string id) (.agg #[.int .i64 pr.x, .int .i64 pr.n, .string pr.t, .string pr.y]) (.agg #[.int .i64 re.x, .int .i64 re.n, .string re.t, .string re.y]) (by rfl) (by rfl) (by rfl) (by rfl) V.ent_impl (unhide qi b2 _ (unhide SE)) ?_
        rintro e x14 ⟨⟨v, rfl, ov⟩, hb⟩
        obtain ⟨av, cv, rfl, _⟩ := V.own_Expr ov
        have OV := hide (V.own_loY ov (unhide BB).size)
        have NE : Hid (∀ g, (Value.slice av LP.wh.length cv).ownBlock = some g → g ≠ w12.drew.heap.size) := hide (fun g e => by have h1 := (ov.lt g e).1; have h2 := (unhide BX).lt; omega)
        replace BX := hide ((unhide BX).keep hb)
        replace BB := hide (bTr (unhide BB) hb)
        clear hb ov
        clear hHeld2
        refine ⟨_, rfl, ?_⟩
        refine hK.out _ _ (by exact (unhide Q3).keep (unhide BB)) (fun hHeld2 => ?_)
        clear hK
        simp only [Act.put, List.setIfInBounds_toArray, List.set_cons_zero, List.set_cons_succ]
        refine wpAnyH_take (i := 8) (oi := { dst := some 102, op := Op.move (Operand.tmp 110), type := 37, pos := "exact.go:9095", after := #[{ on := 7, ground := Ground.data }], guard := none }) (v := .tuple #[V.polAgg LP (.slice av LP.wh.length cv), .bool ok]) rfl (by kernel_rfl) (by kernel_rfl) (by kernel_rfl) (fun _ _ _ h => h) (Or.inl ⟨by rfl, (by intro w hSw; (try go_simp); (try with_reducible rfl))⟩) (by assumption) ?_
        simp only [Act.put, List.setIfInBounds_toArray, List.set_cons_zero, List.set_cons_succ]
        refine wpAnyH_take (i := 9) (oi := { dst := some 111, op := Op.extract (Operand.tmp 102) 0, type := 36, pos := "exact.go:9095", after := #[{ on := 8, ground := Ground.data }], guard := none }) (v := V.polAgg LP (.slice av LP.wh.length cv)) rfl (by kernel_rfl) (by kernel_rfl) (by kernel_rfl) (fun _ _ _ h => h) (Or.inl ⟨by rfl, (by intro w hSw; (try go_simp); (try with_reducible rfl))⟩) (by assumption) ?_
        simp only [Act.put, List.setIfInBounds_toArray, List.set_cons_zero, List.set_cons_succ]
        refine wpAnyH_take (i := 10) (oi := { dst := some 112, op := Op.extract (Operand.tmp 102) 1, type := 4, pos := "exact.go:9095", after := #[{ on := 8, ground := Ground.data }, { on := 12, ground := Ground.gcOnly Departure.lateStores }], guard := none }) (v := .bool ok) rfl (by kernel_rfl) (by kernel_rfl) (by kernel_rfl) (fun _ _ _ h => h) (Or.inl ⟨by rfl, (by intro w hSw; (try go_simp); (try with_reducible rfl))⟩) (by assumption) ?_
        simp only [Act.put, List.setIfInBounds_toArray, List.set_cons_zero, List.set_cons_succ]
        refine wpAnyH_ready (rs := [12]) (by kernel_rfl) (by simp) ?_
        refine AllReadyH.cons (o := { dst := none, op := Op.store 36 (Operand.tmp 18) (Operand.tmp 111), type := 0, pos := "exact.go:9095", after := #[{ on := 11, ground := Ground.data }, { on := 9, ground := Ground.data }, { on := 7, ground := Ground.chain }, { on := 0, ground := Ground.phase }, { on := 1, ground := Ground.phase }, { on := 2, ground := Ground.phase }, { on := 3, ground := Ground.phase }, { on := 4, ground := Ground.phase }, { on := 5, ground := Ground.phase }, { on := 6, ground := Ground.phase }, { on := 7, ground := Ground.phase }, { on := 8, ground := Ground.phase }, { on := 9, ground := Ground.phase }, { on := 10, ground := Ground.textOnly Departure.lateStores }, { on := 11, ground := Ground.phase }], guard := none }) rfl (fun K hK => ?_) AllReadyH.nil
        rw [if_pos (by rfl)]
        refine wp_store_row 36 _ _ rfl (w12.drew.heap.size) (V.polRow LP (.slice av LP.wh.length cv)) rfl rfl 36 _ (unhide BX) (by kernel_rfl) rfl (by simp [Value.oneCell']) ?_
        have MP := hide (V.MadeP.made (L := LP) (unhide BX) (unhide OV) (unhide zB) (unhide NE))
        replace BB := hide (V.bRow (unhide BB) (unhide zB) (V.polRow LP (.slice av LP.wh.length cv)))
        clear hHeld2
        refine hK.out _ _ (by exact (unhide Q3).keep (unhide BB)) (fun hHeld2 => ?_)
        clear hK
        simp only [Act.put, List.setIfInBounds_toArray, List.set_cons_zero, List.set_cons_succ]
        refine wpAnyH_ready (rs := [13]) (by kernel_rfl) (by simp) ?_
        refine AllReadyH.cons (o := { dst := some 19, op := Op.assign (Operand.tmp 112), type := 4, pos := "exact.go:9095", after := #[{ on := 10, ground := Ground.data }, { on := 12, ground := Ground.chain }, { on := 0, ground := Ground.phase }, { on := 1, ground := Ground.phase }, { on := 2, ground := Ground.phase }, { on := 3, ground := Ground.phase }, { on := 4, ground := Ground.phase }, { on := 5, ground := Ground.phase }, { on := 6, ground := Ground.phase }, { on := 7, ground := Ground.phase }, { on := 8, ground := Ground.phase }, { on := 9, ground := Ground.phase }, { on := 10, ground := Ground.phase }, { on := 11, ground := Ground.phase }, { on := 12, ground := Ground.phase }], guard := none }) rfl (fun K hK => ?_) AllReadyH.nil
        rw [if_pos (by rfl)]
        have HK := hide hK
        clear hK hHeld2
        go_wp2_with fail
        refine (unhide HK).out _ _ (by exact (unhide Q3).keep (unhide BB)) (fun hHeld3 => ?_)
        clear HK hHeld3
        refine wpAnyH_done (by kernel_rfl) ?_ _
        go_wp2_with fail
        go_meet
        case rel => exact ⟨w12.drew.heap.size, av, cv, rfl, rfl, MP, BB⟩
      case rest =>
        obtain ⟨S3, rfl⟩ : ∃ x, x = wc := ⟨wc, rfl⟩
        obtain ⟨bxh, ah, ch, rfl, rfl, MH, BH⟩ := hcut
        replace MW := hide ((unhide MW).keep (unhide BH))
        replace MK := hide ((unhide MK).keep (unhide BH))
        replace GR := hide ((unhide GR).keep (unhide BH))
        replace B := hide (bTr (unhide B) (unhide BH))
        clear BH
        go_upto_region 33 with fail
        go_step
        refine wpList_load_row rfl 36 _ rfl _ rfl 36 _ (0, 0) _ (unhide MH).row Try.underlying36 rfl (by kernel_rfl) ?_
        refine wpList_load_row rfl 36 _ rfl _ rfl 36 _ (0, 0) _ (unhide MW).row Try.underlying36 rfl (by kernel_rfl) ?_
        go_wp2_with fail
        refine (eqPolicy_same LP ah aw _ ch _ cw _ (unhide ML2) (V.sl_ownY (unhide MH).own) (V.sl_ownY (unhide MW).own)).mono ?_
        rintro e w13 ⟨rfl, hb⟩
        replace MK := hide ((unhide MK).keep hb)
        replace GR := hide ((unhide GR).keep hb)
        replace B := hide (bTr (unhide B) hb)
        clear hb MH MW
        go_upto_region 36 with fail
        try simp only [Act.put, List.setIfInBounds_toArray, List.set_cons_zero, List.set_cons_succ]
        go_step
        refine wpList_load_row rfl 36 _ rfl _ rfl 36 _ (0, 0) _ (unhide GR) Try.underlying36 rfl (by kernel_rfl) ?_
        go_wp2_with fail
        refine (unhide QH _ (unhide MK)).mono ?_
        rintro e w14 ⟨rfl, hb⟩
        replace B := hide (bTr (unhide B) hb)
        clear hb
        go_wp2_with fail
        go_ret
        exact ⟨rfl, unhide B⟩

set_option maxRecDepth 100000 in
theorem lifted (os : Os) (started : os.Started) (H : Type) (enc : TypeId × Value → H) :
    ReturnsInHanded {} Try.checked os 3 .any (Rows.fnExactLinkPolicySpec.pre6 enc Try.prog Try.f3 Rows.fnExactLinkPolicyRow.domain false) (Rows.fnExactLinkPolicySpec.post enc Try.prog Try.f3 false true false false) := by
  refine returnsInHanded_of_change (C := Try.checked) own started (by kernel_rfl) Try.func3
    (ChangeSpec.witness6 (enc := enc) (C := Try.checked) false ⟨#[], #[.agg #[.string ByteArray.empty, .bool false, .int .i64 0, .int .i64 0, .int .i64 0, .string ByteArray.empty, .string ByteArray.empty, .string ByteArray.empty, .int .i64 0, .int .i64 0, .int .i64 0, .string ByteArray.empty, .string ByteArray.empty, .string ByteArray.empty, .int .i64 0, .int .i64 0, .int .i64 0, .string ByteArray.empty, .string ByteArray.empty, .string ByteArray.empty, .slice none 0 0], .string ByteArray.empty, .agg #[.int .i64 0, .int .i64 0, .string ByteArray.empty, .string ByteArray.empty], .agg #[.int .i64 0, .int .i64 0, .string ByteArray.empty, .string ByteArray.empty]], []⟩ 8 (by kernel_rfl) (by kernel_rfl) (by kernel_rfl) (by kernel_rfl)) ?_
  intro W base args ds gs before hval0 hW hcnd _
  have hval : ∀ (j : Nat) t v, Try.f3.params[j]? = some t → args[j]? = some v → Value.okWide Try.prog W .any base t v := hval0
  have hW' := hW
  obtain ⟨p, q, hA0, hV, rfl, hfz, hnd⟩ := hW
  have hA : DataW.TrodAll enc Try.prog W 0 (fun _ => true) true Try.f3.params.toList args.toList ds p := hA0
  rw [Try.params3] at hA hval
  obtain ⟨v0, vs0, d0, ds0, p0, q0, hargs, rfl, rfl, h0, r0⟩ := trodAll_cons hA
  obtain ⟨v1, vs1, d1, ds1, p1, q1, rfl, rfl, rfl, h1, r1⟩ := trodAll_cons r0
  obtain ⟨v2, vs2, d2, ds2, p2, q2, rfl, rfl, rfl, h2, r2⟩ := trodAll_cons r1
  obtain ⟨v3, vs3, d3, ds3, p3, q3, rfl, rfl, rfl, h3, r3⟩ := trodAll_cons r2
  obtain ⟨rfl, rfl, rfl⟩ := trodAll_nil r3
  obtain rfl : args = #[v0, v1, v2, v3] := by cases args; simp_all
  obtain ⟨rfl, rfl⟩ := trodVars_none hV
  have k0 := h0
  have lt0 : ∀ x ∈ p0, x.block < W.heap.size := by obtain ⟨m, hm⟩ := k0; exact DataW.trod_lt m _ _ _ hm
  obtain ⟨g0, a0, len0, cap0, e0, o0, s0, m0⟩ := V.read_policy (hval 0 28 v0 rfl rfl) h0
  subst e0
  obtain ⟨a1, rfl, rfl, rfl, w1⟩ := open_string Try.underlying9 (hval 1 9 v1 rfl rfl) h1
  have k2 := h2
  have lt2 : ∀ x ∈ p2, x.block < W.heap.size := by obtain ⟨m, hm⟩ := k2; exact DataW.trod_lt m _ _ _ hm
  obtain ⟨c2, e2, o2⟩ := V.readv_atom (hval 2 23 v2 rfl rfl) h2
  subst e2
  have k3 := h3
  have lt3 : ∀ x ∈ p3, x.block < W.heap.size := by obtain ⟨m, hm⟩ := k3; exact DataW.trod_lt m _ _ _ hm
  obtain ⟨c3, e3, o3⟩ := V.readv_atom (hval 3 23 v3 rfl rfl) h3
  subst e3
  clear hA0 hval0
  refine (walk g0 a0 len0 cap0 a1 c2 c3 W o0 s0 m0 w1 o2 o3).mono fun e W' ⟨he, bel⟩ => ?_
  subst he
  exact ⟨_, rfl, _, _, _, [], _, [], hW', trodAll_mk1 (shut_bool Try.underlying4 _), (trodAll_cons_mk (Below.trod laidOut (by kernel_rfl) (of_decide_eq_true (by kernel_rfl)) k0 bel lt0) (trodAll_cons_mk (shut_string Try.underlying9 w1) (trodAll_cons_mk (Below.trod laidOut (by kernel_rfl) (of_decide_eq_true (by kernel_rfl)) k2 bel lt2) (trodAll_cons_mk (Below.trod laidOut (by kernel_rfl) (of_decide_eq_true (by kernel_rfl)) k3 bel lt3) trodAll_mk0)))), rfl, bel.frame _, fun h => by cases h⟩

theorem over : Rows.fnExactLinkPolicyRow.holds Try.pinned (OpenSpec.ofChange Rows.fnExactLinkPolicySpec) :=
  OpenClaim.holds_of_wide 3 Try.f3 rfl rfl rfl rfl rfl rfl rfl ⟨rfl, rfl, rfl, rfl, rfl⟩ rfl rfl rfl rfl rfl (by kernel_rfl) Try.func3 (by kernel_rfl)
    (of_decide_eq_true (by kernel_rfl)) (by unfold Func.isWrapper; rw [if_neg (by decide +kernel)]; exact ⟨rfl, rfl⟩)
    (fun os started H enc _ => lifted os started H enc)
end Go.Proofs.Ytcajlndbaipcaaa.fnExactLinkPolicy
namespace Go.Proofs.Ytcajlndbaipcaaa
theorem fnExactLinkPolicy_holds : Rows.FnExactLinkPolicySaid := fnExactLinkPolicy.over
end Go.Proofs.Ytcajlndbaipcaaa
