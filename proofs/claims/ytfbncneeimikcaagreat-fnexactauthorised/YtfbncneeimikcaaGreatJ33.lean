/- ODq, ODr, one behind the other. -/
import Derived.Test.YtfbncneeimikcaaGreatJ32
import Derived.Test.YtfbncneeimikcaaGreatJ25
/- (impl.grantDepths).add. -/
namespace Go.Proofs.YtfbncneeimikcaaGreat.V
set_option linter.unusedSimpArgs false
set_option linter.unusedVariables false
open Go.RowKit Go.Maps

theorem intM_upd2 (L : ByteArray → ByteArray → Option Nat) (u r : ByteArray) (m : Nat) : intM (updL2 L u r m u) = updK (intM (L u)) r (.int .i64 (m : Int)) := by
  funext x
  unfold intM updL2 updK
  by_cases h : x = r <;> simp [h]
theorem updL2_other (L : ByteArray → ByteArray → Option Nat) (u r : ByteArray) (m : Nat) {a : ByteArray} (h : ¬ a = u) : updL2 L u r m a = L a := by
  funext x
  simp [updL2, h]
/-- What add makes of L. -/
def addL (L : ByteArray → ByteArray → Option Nat) (u r : ByteArray) (D : Nat) : ByteArray → ByteArray → Option Nat := match L u r with | some _ => L | none => updL2 L u r D
set_option maxRecDepth 40000 in
set_option maxHeartbeats 4000000 in
theorem addD_n (lo bd n D : Nat) (L : ByteArray → ByteArray → Option Nat) (tab : ByteArray → Option Nat) (f0 f1 f2 : ByteArray) (f3 f5 : Int) (w : World) (hG : DM w lo bd n L tab) (hlo : lo ≤ w.heap.size) (hn : n < 1000000) (h0 : f0.size ≤ maxLen) (h1 : f1.size ≤ maxLen) :
    Calls Tryz.prog 92 #[.map (some bd), .agg #[.string f0, .string f1, .string f2, .int .i64 f3, .int .i64 (D : Int), .int .i64 f5]] w fun e w' => e = .returned (.tuple #[]) ∧ (∃ tab', DM w' lo bd (n + 1) (addL L f0 f1 D) tab') ∧ KeptJ lo w w' := by
  have hnm : n < maxLen := by unfold maxLen; omega
  obtain ⟨W, hW⟩ : ∃ W, W = w.alloc (.cells #[.string f0, .string f1, .string f2, .int .i64 f3, .int .i64 (D : Int), .int .i64 f5] 112) := ⟨_, rfl⟩
  have bW : Below w.heap.size w W := by rw [hW]; exact bAl (Below.refl _ _) _
  have KW := hide (show KeptJ lo w W by rw [hW]; exact KeptJ.alloc _ _ _)
  have zW : W.heap.size = w.heap.size + 1 := by rw [hW]; simp
  have GK := hG.keep bW
  clear hG bW
  have HT := hide GK.top
  have eqS := eqDepS
  have eqN := eqDepN
  cases hT : tab f0 with
  | some b =>
    have e1 := hide (show ((topM tab) f0).getD (.map none) = Value.map (some b) by simp [topM, hT])
    have HK := hide (GK.kid f0 b hT)
    cases hL : L f0 f1 with
    | some m =>
      have FIN := hide (show (∃ tab', DM W lo bd (n + 1) (addL L f0 f1 D) tab') by unfold addL; rw [hL]; exact ⟨tab, GK.more (by omega)⟩)
      have er := hide (show (intM (L f0) f1).isSome = true by simp [intM, hL])
      have ev := hide (show (intM (L f0) f1).getD (.int .i64 0) = .int .i64 m by simp [intM, hL])
      clear hL GK hT zW
      subst hW
      go_enter Tryz.func92, Tryz.ntmps92
      go_wp2_with (first | (at_lookup; refine wpList_get_km _ kStr rfl _ _ _ rfl _ Tryz.underlying70 (zeroDep _) bd n _ rfl (unhide HT) f0 rfl h0 _ (unhide e1) ?_) | (at_lookup; refine wpList_look_km _ kStr rfl _ _ _ rfl _ Tryz.underlying130 (zeroInt _) b n _ rfl (unhide HK) f1 rfl h1 _ _ (unhide ev) (unhide er) ?_))
      go_end0
      exact ⟨rfl, unhide FIN, unhide KW⟩
    | none =>
      have er := hide (show (intM (L f0) f1).isSome = false by simp [intM, hL])
      have ev := hide (show (intM (L f0) f1).getD (.int .i64 0) = .int .i64 0 by simp [intM, hL])
      have FIN : Hid (∀ w1, KStr w1 b (n + 1) (updK (intM (L f0)) f1 (.int .i64 (D : Int))) → W.grownBy w1 (some b) → (∃ tab', DM w1 lo bd (n + 1) (addL L f0 f1 D) tab') ∧ KeptJ lo w w1) := hide (fun w1 q1 q2 => by
        have ne : some bd ≠ some b := fun e => by cases e; exact (GK.ge f0 _ hT).2 rfl
        refine ⟨?_, (unhide KW).trans (KeptJ.grown (GK.kid _ _ hT) (GK.ge _ _ hT).1 q2)⟩
        unfold addL
        rw [hL]
        refine ⟨tab, GK.base, (GK.top.kept q2 ne).more (by omega), fun a b' e => ?_, GK.inj, GK.ge, fun a r h => ?_⟩
        · by_cases ha : a = f0
          · subst ha
            obtain rfl : b' = b := by rw [hT] at e; exact (Option.some.inj e).symm
            simp only [intM_upd2]; exact q1
          · simp only [updL2_other _ _ _ _ ha]
            exact ((GK.kid a b' e).kept q2 (fun e2 => by cases e2; exact ha (GK.inj _ _ _ e hT))).more (by omega)
        · have ha : ¬ a = f0 := fun e => by rw [e, hT] at h; cases h
          simp only [updL2_other _ _ _ _ ha]; exact GK.no a r h)
      clear hL GK hT KW zW
      subst hW
      go_enter Tryz.func92, Tryz.ntmps92
      go_wp2_with (first | (at_lookup; refine wpList_get_km _ kStr rfl _ _ _ rfl _ Tryz.underlying70 (zeroDep _) bd n _ rfl (unhide HT) f0 rfl h0 _ (unhide e1) ?_) | (at_lookup; refine wpList_look_km _ kStr rfl _ _ _ rfl _ Tryz.underlying130 (zeroInt _) b n _ rfl (unhide HK) f1 rfl h1 _ _ (unhide ev) (unhide er) ?_) | (at_mapUpdate; refine wpList_put_km _ kStr rfl _ _ _ _ rfl _ Tryz.underlying130 b n _ rfl (unhide HK) hnm f1 _ rfl rfl h1 ?_; intro w1 q1 q2 q3; have Q1 := hide q1; have Q2 := hide q2; clear q1 q2 q3))
      go_end0
      exact ⟨rfl, unhide FIN _ (unhide Q1) (unhide Q2)⟩
  | none =>
    have e1 := hide (show ((topM tab) f0).getD (.map none) = Value.map none by simp [topM, hT])
    have e2 := hide (show (updK (topM tab) f0 (Value.map (some W.heap.size)) f0).getD (.map none) = Value.map (some W.heap.size) by simp [updK])
    have GT := hide (GK.top.kept (World.grownBy_alloc W (.map #[] 0) none) (by simp))
    have KI := hide (KM.made Tryz.prog 9 Value.string W)
    have hlt := hide GK.top.lt
    have nb : Hid (some W.heap.size ≠ some bd) := hide (fun e => by cases e; exact Nat.lt_irrefl _ (unhide hlt))
    have FIN : Hid (∀ w1 w2, KStr w1 bd (n + 1) (updK (topM tab) f0 (Value.map (some W.heap.size))) → (W.alloc (.map #[] 0)).grownBy w1 (some bd) → KStr w2 W.heap.size 1 (updK (fun _ => none) f1 (.int .i64 (D : Int))) → w1.grownBy w2 (some W.heap.size) → (∃ tab', DM w2 lo bd (n + 1) (addL L f0 f1 D) tab') ∧ KeptJ lo w w2) := hide (fun w1 w2 q1 q2 q3 q4 => by
      have hN : ∀ r, L f0 r = none := fun r => GK.no f0 r hT
      have K1 : KeptJ lo W w2 := ((KeptJ.alloc lo W (.map #[] 0)).trans (KeptJ.grown (unhide GT) GK.base q2)).trans (KeptJ.grown ((unhide KI).kept q2 (unhide nb)) (by omega) q4)
      refine ⟨?_, (unhide KW).trans K1⟩
      unfold addL
      rw [hN]
      refine ⟨fun y => if y = f0 then some W.heap.size else tab y, GK.base, ?_, fun a b' e => ?_, fun a a' b' e e' => ?_, fun a b' e => ?_, fun a r h => ?_⟩
      · rw [updTab]
        exact q1.kept q4 (fun e => (unhide nb) e.symm)
      · by_cases ha : a = f0
        · subst ha
          simp at e
          subst e
          have e9 : intM (L a) = fun _ => none := by funext x; simp [intM, hN]
          simp only [intM_upd2, e9]
          exact q3.more (by omega)
        · simp [ha] at e
          simp only [updL2_other _ _ _ _ ha]
          have hl := (GK.kid a b' e).lt
          refine ((((GK.kid a b' e).kept (World.grownBy_alloc W (.map #[] 0) none) (by simp)).kept q2 (fun e2 => ?_)).kept q4 (fun e2 => ?_)).more (by omega)
          · cases e2; exact (GK.ge a _ e).2 rfl
          · cases e2; exact Nat.lt_irrefl _ hl
      · by_cases ha : a = f0 <;> by_cases ha' : a' = f0
        · rw [ha, ha']
        · simp [ha, ha'] at e e'
          subst e
          exact absurd (GK.kid a' _ e').lt (Nat.lt_irrefl _)
        · simp [ha, ha'] at e e'
          subst e'
          exact absurd (GK.kid a _ e).lt (Nat.lt_irrefl _)
        · simp [ha, ha'] at e e'
          exact GK.inj _ _ _ e e'
      · by_cases ha : a = f0
        · simp [ha] at e
          subst e
          exact ⟨by omega, fun e => (unhide nb) (by rw [e])⟩
        · simp [ha] at e
          exact GK.ge a b' e
      · by_cases ha : a = f0
        · simp [ha] at h
        · simp [ha] at h
          simp only [updL2_other _ _ _ _ ha]; exact GK.no a r h)
    have CX : Hid (∀ w1, (W.alloc (.map #[] 0)).grownBy w1 (some bd) → w1.cell? ⟨w.heap.size, 0, none⟩ = some (.string f0) ∧ w1.cell? ⟨w.heap.size, 1, none⟩ = some (.string f1) ∧ w1.cell? ⟨w.heap.size, 4, none⟩ = some (.int .i64 (D : Int))) := hide (fun w1 q => by
      have r0 : RowIs (W.alloc (.map #[] 0)) w.heap.size #[.string f0, .string f1, .string f2, .int .i64 f3, .int .i64 (D : Int), .int .i64 f5] 112 := by
        have := RowIs.new w #[.string f0, .string f1, .string f2, .int .i64 f3, .int .i64 (D : Int), .int .i64 f5] 112
        rw [← hW] at this
        exact this.keep (bAl (Below.refl _ _) _)
      exact ⟨cellG q (unhide GT) (r0.at (o := 0) (v := .string f0) rfl), cellG q (unhide GT) (r0.at (o := 1) (v := .string f1) rfl), cellG q (unhide GT) (r0.at (o := 4) (v := .int .i64 (D : Int)) rfl)⟩)
    have hmm := @run_makeMap Tryz.prog
    have er := hide (show ((fun _ => none : ByteArray → Option Value) f1).isSome = false by rfl)
    have ev := hide (show ((fun _ => none : ByteArray → Option Value) f1).getD (.int .i64 0) = .int .i64 0 by rfl)
    rw [zW] at e2 KI nb FIN
    clear GK hT hlo KW hlt zW
    subst hW
    go_enter Tryz.func92, Tryz.ntmps92
    go_wp2_with (first
      | (at_lookup; refine wpList_get_km _ kStr rfl _ _ _ rfl _ Tryz.underlying70 (zeroDep _) bd n _ rfl (unhide HT) f0 rfl h0 _ (unhide e1) ?_)
      | (at_mapUpdate; refine wpList_put_km _ kStr rfl _ _ _ _ rfl _ Tryz.underlying70 bd n _ rfl (unhide GT) hnm f0 _ rfl rfl h0 ?_; intro w1 q1 q2 q3; have Q1 := hide q1; have Q2 := hide q2; have KJ := hide ((unhide KI).kept q2 (unhide nb)); obtain ⟨cc0, cc1, cc4⟩ := unhide CX _ q2; clear q1 q2 q3)
      | (at_lookup; refine wpList_get_km _ kStr rfl _ _ _ rfl _ Tryz.underlying70 (zeroDep _) bd (n + 1) _ rfl (unhide Q1) f0 rfl h0 _ (unhide e2) ?_)
      | (at_lookup; refine wpList_look_km _ kStr rfl _ _ _ rfl _ Tryz.underlying130 (zeroInt _) _ 0 _ rfl (unhide KJ) f1 rfl h1 _ _ (unhide ev) (unhide er) ?_)
      | (at_mapUpdate; refine wpList_put_km _ kStr rfl _ _ _ _ rfl _ Tryz.underlying130 _ 0 _ rfl (unhide KJ) (by unfold maxLen; omega) f1 _ rfl rfl h1 ?_; intro w2 q1 q2 q3; have Q3 := hide q1; have Q4 := hide q2; clear q1 q2 q3))
    go_end0
    exact ⟨rfl, unhide FIN _ _ (unhide Q1) (unhide Q2) (unhide Q3) (unhide Q4)⟩
end Go.Proofs.YtfbncneeimikcaaGreat.V
/- impl.depthsAt. -/
namespace Go.Proofs.YtfbncneeimikcaaGreat.V
set_option linter.unusedSimpArgs false
set_option linter.unusedVariables false
open Go.RowKit Go.Maps

theorem addL_take (L : ByteArray → ByteArray → Option Nat) (u r : ByteArray) (D : Nat) : (match L u r with | Option.some _ => L | Option.none => updL2 L u r D) = addL L u r D := rfl
set_option maxRecDepth 40000 in
set_option maxHeartbeats 8000000 in
theorem depthsAt_n (h : Hd) (l : List RoleGrantE) (t : Int) (w : World) (h300 : l.length ≤ 300) (hn : ∀ e ∈ l, RoleGrantN e.t) (hd : DepOk (l.map (·.t))) (hs : SqRoleGrantE w 0 h l) :
    Calls Tryz.prog 64 #[.slice h.a h.len h.cap, .int .i64 t] w fun e w' => (∃ L tab, e = .returned (.map (some w.heap.size)) ∧ DM w' w.heap.size w.heap.size 900 L tab ∧ DpI (l.map (·.t)) t 3 0 L) ∧ Below w.heap.size w w' := by
  have HL := hide hs.1
  have HS := hide hs
  have HN := hide hn
  have HD := hide hd
  obtain ⟨a, len, cap⟩ := h
  simp only at HL
  have L30 : len ≤ 300 := by have := unhide HL; omega
  have D0 := hide (DM.made w w.heap.size (Nat.le_refl _))
  have B0 := hide (bAl (Below.refl w.heap.size w) (.map #[] 0))
  have hmm := @run_makeMap Tryz.prog
  clear hs hn hd h300
  go_enter Tryz.func64, Tryz.ntmps64
  go_wp2_with fail
  clear hmm
  go_loopw [10] (fun i w' => ∃ (d : Nat) (L : ByteArray → ByteArray → Option Nat) (tab : ByteArray → Option Nat), d ≤ 3 ∧ i = .int .i64 d ∧ Hid (DM w' w.heap.size w.heap.size (d * len) L tab) ∧ Hid (DpI (l.map (·.t)) t d 0 L) ∧ Hid (Below w.heap.size w w')) (fun i _ => 3 - (Go.RowKit.intOf i).toNat)
  case atStart => exact ⟨0, _, _, by omega, rfl, hide ((unhide D0).more (by omega)), hide (DpI.start _ _), B0⟩
  case round =>
    clear D0 B0
    obtain ⟨d, L, tab, hd, rfl, DMx, DP, B⟩ := hrel
    by_cases hlt : d < 3
    case neg =>
      have ed : d = 3 := by omega
      subst ed
      have DE := hide ((unhide DMx).more (show 3 * len ≤ 900 by omega))
      clear DMx
      go_wp2_with fail
      go_ret
      exact ⟨⟨L, tab, rfl, unhide DE, unhide DP⟩, unhide B⟩
    go_wp2_with fail
    rw [show decide ((d : Int) < 3) = true from decide_eq_true (by omega)]
    go_loopw [15] (fun i w' => ∃ (k : Nat) (L : ByteArray → ByteArray → Option Nat) (tab : ByteArray → Option Nat), k ≤ len ∧ i = .int .i64 k ∧ Hid (DM w' w.heap.size w.heap.size (d * len + k) L tab) ∧ Hid (DpI (l.map (·.t)) t d k L) ∧ Hid (Below w.heap.size w w')) (fun i _ => len - (Go.RowKit.intOf i).toNat)
    case atStart => exact ⟨0, L, tab, Nat.zero_le _, rfl, DMx, DP, B⟩
    case round =>
      clear DMx DP B L tab
      obtain ⟨k, L, tab, hk, rfl, DMx, DP, B⟩ := hrel
      by_cases hlk : k < len
      case neg =>
        have ek : k = len := by omega
        subst ek
        have DE := hide (show DM wr w.heap.size w.heap.size ((d + 1) * k) L tab by rw [Nat.succ_mul]; exact unhide DMx)
        have DQ := hide (DpI.level (show DpI (l.map (·.t)) t d (l.map (·.t)).length L by have := unhide DP; rw [unhide HL] at this; simpa using this))
        clear DMx DP
        go_wp2_with fail
        exact ⟨⟨d + 1, L, tab, by omega, by go_num, DE, DQ, B⟩, by simp [Go.RowKit.intOf]; omega⟩
      have hk' : k < l.length := by have := unhide HL; omega
      obtain ⟨b, off, e0, hrow⟩ := ((unhide HS).keep (unhide B)).at hlk
      simp only at e0
      subst e0
      have c0 := hrow.c0 k hk'
      have c1 := hrow.c1 k hk'
      have c2 := hrow.c2 k hk'
      have c3 := hrow.c3 k hk'
      have c4 := hrow.c4 k hk'
      have c5 := hrow.c5 k hk'
      have o0 := (unhide HN _ (List.getElem_mem hk')).o0
      have o1 := (unhide HN _ (List.getElem_mem hk')).o1
      have o2 := (unhide HN _ (List.getElem_mem hk')).o2
      have ek : (l.map (·.t))[k]'(by simpa using hk') = l[k].t := by simp
      have hkm : k < (l.map (·.t)).length := by simpa using hk'
      have CNT : Hid (l[k].t.f4 = (d : Int) → (CG (l.map (·.t)) t l[k].t ↔ (t ≤ l[k].t.f3 ∧ (l[k].t.f2 = ⟨#[]⟩ ∨ ∃ m, L l[k].t.f2 l[k].t.f1 = Option.some m ∧ (m : Int) < l[k].t.f4)))) := hide (fun hD => by have := (unhide DP).counts (unhide HD) hkm (by rw [ek]; exact hD); rw [ek] at this; exact this)
      have SKP : Hid (¬ (l[k].t.f4 = (d : Int) ∧ CG (l.map (·.t)) t l[k].t) → DpI (l.map (·.t)) t d (k + 1) L) := hide (fun hn => (unhide DP).skip hkm (by rw [ek]; exact hn))
      have TAK : Hid (l[k].t.f4 = (d : Int) → CG (l.map (·.t)) t l[k].t → DpI (l.map (·.t)) t d (k + 1) (addL L l[k].t.f0 l[k].t.f1 d)) := hide (fun hD hc => by have := (unhide DP).take hkm (by rw [ek]; exact hD) (by rw [ek]; exact hc); rw [ek] at this; exact this)
      obtain ⟨W, hW⟩ : ∃ W, W = wr.alloc (.cells #[.string l[k].t.f0, .string l[k].t.f1, .string l[k].t.f2, .int .i64 l[k].t.f3, .int .i64 l[k].t.f4, .int .i64 l[k].t.f5] 112) := ⟨_, rfl⟩
      have bW : Below wr.heap.size wr W := by rw [hW]; exact bAl (Below.refl _ _) _
      have qW : RowIs W wr.heap.size #[.string l[k].t.f0, .string l[k].t.f1, .string l[k].t.f2, .int .i64 l[k].t.f3, .int .i64 l[k].t.f4, .int .i64 l[k].t.f5] 112 := by rw [hW]; exact RowIs.new wr _ _
      have DW := hide ((unhide DMx).keep bW)
      have BW := hide (bTr (unhide B) bW)
      have HW := hide hW
      have QW := hide qW
      clear hW qW bW DMx DP B hrow ek hkm
      generalize l[k] = A at *
      obtain ⟨⟨f0, f1, f2, f3, f4, f5⟩⟩ := A
      simp only at *
      by_cases e4 : f4 = (d : Int)
      case neg =>
        have d4 : (f4 == (d : Int)) = false := by simpa using e4
        have DQ := hide (unhide SKP (fun h => e4 h.1))
        have DE := hide ((unhide DW).more (show d * len + k ≤ d * len + (k + 1) by omega))
        clear CNT SKP TAK e4 DW QW
        go_wp2_with fail
        rw [← unhide HW]
        exact ⟨⟨k + 1, L, tab, by omega, by go_num, DE, DQ, BW⟩, by simp [Go.RowKit.intOf]; omega⟩
      have d4 : (f4 == (d : Int)) = true := by simpa using e4
      have CN := hide (unhide CNT e4)
      by_cases e5 : CG (l.map (·.t)) t ⟨f0, f1, f2, f3, f4, f5⟩
      case neg =>
        have DQ := hide (unhide SKP (fun h => e5 h.2))
        have qc := hide (callsF5 (counts_n w.heap.size w.heap.size _ L tab f0 f1 f2 f3 f4 f5 t W (unhide DW) o1 o2) (fun h => e5 ((unhide CN).2 h)))
        have DE := hide ((unhide DW).more (show d * len + k ≤ d * len + (k + 1) by omega))
        clear CNT SKP TAK e4 e5 CN DW QW
        go_wp2_with fail
        rw [← unhide HW]
        refine (unhide qc).mono ?_
        rintro _ w2 ⟨rfl, hb2⟩
        have DE2 := hide ((unhide DE).keep hb2)
        have BE := hide (bTr (unhide BW) hb2)
        clear hb2 DE BW qc
        go_wp2_with fail
        exact ⟨⟨k + 1, L, tab, by omega, by go_num, DE2, DQ, BE⟩, by simp [Go.RowKit.intOf]; omega⟩
      have DQ := hide (unhide TAK e4 e5)
      have qc := hide (callsT5 (counts_n w.heap.size w.heap.size _ L tab f0 f1 f2 f3 f4 f5 t W (unhide DW) o1 o2) ((unhide CN).1 e5))
      have zl := (unhide DW).top.lt
      have nb : d * len + k < 1000000 := by
        have : d * len ≤ 3 * len := Nat.mul_le_mul_right _ (by omega)
        omega
      have qa := hide (fun w2 hg => addD_n w.heap.size w.heap.size (d * len + k) d L tab f0 f1 f2 f3 f5 w2 hg)
      clear CNT SKP TAK e5 CN
      subst e4
      go_wp2_with fail
      rw [← unhide HW]
      refine (unhide qc).mono ?_
      rintro _ w2 ⟨rfl, hb2⟩
      have D2 := hide ((unhide DW).keep hb2)
      have B2 := hide (bTr (unhide BW) hb2)
      have z2 := hb2.size
      have Q2 := (unhide QW).keep hb2
      have y0 := Q2.at (o := 0) (v := .string f0) rfl
      have y1 := Q2.at (o := 1) (v := .string f1) rfl
      have y2 := Q2.at (o := 2) (v := .string f2) rfl
      have y3 := Q2.at (o := 3) (v := .int .i64 f3) rfl
      have y4 := Q2.at (o := 4) (v := .int .i64 (d : Int)) rfl
      have y5 := Q2.at (o := 5) (v := .int .i64 f5) rfl
      clear hb2 Q2 DW BW QW qc HW
      go_wp2_with fail
      refine (unhide qa w2 (unhide D2) (by omega) nb o0 o1).mono ?_
      rintro _ w3 ⟨rfl, ⟨tab', hd3⟩, hk3⟩
      have D3 := hide (show DM w3 w.heap.size w.heap.size (d * len + (k + 1)) _ tab' from hd3)
      have B3 := hide (belowJ (unhide B2) hk3 (Nat.le_refl _))
      clear hd3 hk3 D2 B2 qa
      go_wp2_with fail
      exact ⟨⟨k + 1, _, tab', by omega, by go_num, D3, DQ, B3⟩, by simp [Go.RowKit.intOf]; omega⟩
end Go.Proofs.YtfbncneeimikcaaGreat.V
