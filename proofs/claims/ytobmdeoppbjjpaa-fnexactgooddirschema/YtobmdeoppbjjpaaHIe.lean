/- impl.dirIndex: goodTypes. -/
import Derived.Test.YtobmdeoppbjjpaaHId
import Derived.BigQuiet
namespace Go.Proofs.Ytobmdeoppbjjpaa.V
set_option linter.unusedSimpArgs false
set_option linter.unusedVariables false
open Go.RowKit Go.Maps

theorem wpList_get_want {P : Program} {k : TypeId} {α : Type} {enc : α → Value} {ok : α → Prop} (w : World) {ops : Array Oper} {rest : List Oper} {o : Oper} {a : Act} {Q : Exit → Act → World → Prop} (K : KeyKind P k enc ok) (hw : Region.wanted o (yielded ops a.tmps) = true) (m x : Operand) (t : TypeId) (hop : o.op = Op.lookup t m x false) (e : TypeId) (ht : P.underlying t = some (.map k e)) {z : Value} (hz : (zeroValue e).run P w = .ok z w) (b n : Nat) (M : α → Option Value) (hm : a.eval m = .map (some b)) (hk : KM P k enc w b n M)
    (y : α) (hx : a.eval x = enc y) (hy : ok y) (v : Value) (hv : (M y).getD z = v)
    (hK : wpList P ops Q rest (a.put o.dst v) w) : wpList P ops Q (o :: rest) a w := by
  obtain ⟨D, hown, hD⟩ := hk
  obtain ⟨kl, hkl⟩ := K.key y hy
  obtain ⟨v', ps, hrun, hv'⟩ := hown.lookup K.law ht hz (zd := .held z) (zp := []) rfl hkl
  obtain ⟨h1, h2⟩ := hD y kl hkl
  have e := kd_atKey h1 h2 hv'
  rw [hv] at e
  subst e
  refine BigFrame.wpList_want hw fun K' hK' => ?_
  unfold Oper.wp
  simp [execOp, hop, hm, hx, hrun, Result.andThen]
  exact hK' _ _ hK
set_option maxRecDepth 20000 in
set_option maxHeartbeats 2000000 in
theorem goodTypes_n (b1 b2 : Nat) (h : Hd) (l : List AttrTypeE) (M : ByteArray → Option Value) (C : ByteArray → Option AttrTypeE) (n : Nat) (w : World) (hl : l.length ≤ maxLen) (hs : SqAttrTypeE w 0 h l) (hn : ∀ e ∈ l, AttrTypeN e.t) (hM : KStr w b1 n M) (hC : KC (·.t.f0) ayV l M C) :
    Calls Try.prog 19 #[.agg #[.map (some b1), .map (some b2)], .slice h.a h.len h.cap] w fun r w' => RetB r ((∀ x ∈ l, GTy x.t) ∧ (∀ i (h : i + 1 < l.length), cmpT l[i].t.f0.data.toList l[i + 1].t.f0.data.toList < 0) ∧ ∃ e, C clsW = some e ∧ e.t = ⟨clsW, 2, false⟩) ∧ Below w.heap.size w w' := by
  have q1 : Hid (∀ x ∈ l, ∀ w' : World, Below w.heap.size w w' → Calls Try.prog 30 #[.agg #[.string x.t.f0, .int .i64 x.t.f1, .bool x.t.f2]] w' fun e w'' => RetB e (GTy x.t) ∧ Below w'.heap.size w' w'') := hide (fun x hx w' _ => goodType_n x w' (hn x hx))
  have q2 := hide (fun (w' : World) (hb : Below w.heap.size w w') => rising_ay (fun x y => cmpT x.t.f0.data.toList y.t.f0.data.toList) h l w' hl (hs.keep hb) (fun x _ y _ w'' _ => ayBy_any x y w''))
  have B := hide (bAl (Below.refl w.heap.size w) (.cells #[.map (some b1), .map (some b2)] 55))
  have R := hide (RowIs.new w #[.map (some b1), .map (some b2)] 55)
  have HM := hide (fun (w' : World) (hb : Below w.heap.size w w') => hM.keepB hb hM.lt)
  have h1 := hide (hC clsW).1
  generalize hG : ((∀ x ∈ l, GTy x.t) ∧ (∀ i (h : i + 1 < l.length), cmpT l[i].t.f0.data.toList l[i + 1].t.f0.data.toList < 0) ∧ ∃ e, C clsW = some e ∧ e.t = ⟨clsW, 2, false⟩) = G
  have D0 : Hid (G ↔ ((∀ x ∈ l, GTy x.t) ∧ (∀ i (h : i + 1 < l.length), cmpT l[i].t.f0.data.toList l[i + 1].t.f0.data.toList < 0) ∧ ∃ e, C clsW = some e ∧ e.t = ⟨clsW, 2, false⟩)) := hide (by rw [← hG])
  obtain ⟨PX, hPX⟩ : ∃ PX : AttrTypeE → Prop, PX = fun x => GTy x.t := ⟨_, rfl⟩
  have e1 : (∀ x ∈ l, GTy x.t) = (∀ x ∈ l, PX x) := by rw [hPX]
  have e2 : ∀ x, GTy x.t = PX x := fun x => by rw [hPX]
  rw [e1] at D0
  simp only [e2] at q1
  have HS := hide hs
  have HL := hide hs.1
  have LM : h.len ≤ maxLen := by rw [hs.1]; exact hl
  unfold maxLen at LM
  obtain ⟨a, len, cap⟩ := h
  simp only at HL LM q2
  clear hl hs hG hn hM hC e1 e2 hPX
  go_enter Try.func19, Try.ntmps19
  go_wp2_with fail
  go_loopw [10] (fun i w' => ∃ k : Nat, k ≤ len ∧ i = .int .i64 k ∧ Hid (Below w.heap.size w w') ∧ Hid (RowIs w' w.heap.size #[.map (some b1), .map (some b2)] 55) ∧ Hid (∀ i (h : i < l.length), i < k → PX l[i])) (fun i _ => len - (intOf i).toNat)
  case atStart => exact ⟨0, Nat.zero_le _, rfl, B, R, hide (fun i _ h => absurd h (Nat.not_lt_zero _))⟩
  case round =>
    clear B R
    obtain ⟨k, hk, rfl, B, R, hA⟩ := hrel
    by_cases hlt : k < len
    case neg =>
      have ALL : Hid (∀ x ∈ l, PX x) := hide (fun x hx => by
        obtain ⟨i, hi, rfl⟩ := List.getElem_of_mem hx
        exact unhide hA i hi (by have := unhide HL; omega))
      clear hA q1
      have r0 := (unhide R).at (o := 0) (v := .map (some b1)) rfl
      go_wp2_with fail
      refine (unhide q2 _ (unhide B)).mono ?_
      rintro r w1 ⟨⟨v, rfl, hv⟩, hb⟩
      have HV := hide hv
      replace B := hide (bTr (unhide B) hb)
      replace R := hide ((unhide R).keep hb)
      clear hb hv q2 r0
      cases v
      · have no : Hid (¬ G) := hide (fun g => by have := (unhide HV).2 ((unhide D0).1 g).2.1; cases this)
        clear D0 HV
        go_wp2_with fail
        go_ret
        exact ⟨retB (b := false) ⟨fun h => (by cases h), fun h => absurd h (unhide no)⟩, unhide B⟩
      have D1 : Hid (G ↔ ∃ e, C clsW = some e ∧ e.t = ⟨clsW, 2, false⟩) := hide ((unhide D0).trans ⟨fun h => h.2.2, fun h => ⟨unhide ALL, (unhide HV).1 rfl, h⟩⟩)
      have r0 := (unhide R).at (o := 0) (v := .map (some b1)) rfl
      have HM2 := hide (unhide HM _ (unhide B))
      clear D0 ALL HV HM R
      have hz5 : clsW.size ≤ maxLen := by show (5 : Nat) ≤ maxLen; unfold maxLen; omega
      cases hc : C clsW
      case none =>
        have ev : Hid ((M clsW).getD (.agg #[.string ⟨#[]⟩, .int .i64 0, .bool false]) = .agg #[.string ⟨#[]⟩, .int .i64 0, .bool false]) := hide (by rw [unhide h1, hc]; rfl)
        have no : Hid (¬ G) := hide (fun g => by obtain ⟨e, h, _⟩ := (unhide D1).1 g; rw [hc] at h; cases h)
        clear D1 hc h1
        go_wp2_with (at_lookup; refine wpList_get_want _ kStr (by rfl) _ _ _ rfl _ Try.underlying52 (zeroAY _) b1 _ _ rfl (unhide HM2) clsW rfl hz5 _ (unhide ev) ?_)
        go_ret
        exact ⟨retB (b := false) ⟨fun h => (by cases h), fun h => absurd h (unhide no)⟩, unhide B⟩
      case some e =>
        obtain ⟨⟨f0, f1, f2⟩⟩ := e
        have ev : Hid ((M clsW).getD (.agg #[.string ⟨#[]⟩, .int .i64 0, .bool false]) = .agg #[.string f0, .int .i64 f1, .bool f2]) := hide (by rw [unhide h1, hc]; rfl)
        have D2 : Hid (G ↔ (f0 = clsW ∧ f1 = 2 ∧ f2 = false)) := hide ((unhide D1).trans (by rw [hc]; simp))
        clear D1 hc h1
        cases f2
        case true =>
          have no : Hid (¬ G) := hide (fun g => by have := ((unhide D2).1 g).2.2; cases this)
          clear D2
          go_wp2_with (at_lookup; refine wpList_get_want _ kStr (by rfl) _ _ _ rfl _ Try.underlying52 (zeroAY _) b1 _ _ rfl (unhide HM2) clsW rfl hz5 _ (unhide ev) ?_)
          go_ret
          exact ⟨retB (b := false) ⟨fun h => (by cases h), fun h => absurd h (unhide no)⟩, unhide B⟩
        by_cases g1 : f1 = 2
        case neg =>
          have no : Hid (¬ G) := hide (fun g => g1 ((unhide D2).1 g).2.1)
          clear D2
          go_wp2_with (at_lookup; refine wpList_get_want _ kStr (by rfl) _ _ _ rfl _ Try.underlying52 (zeroAY _) b1 _ _ rfl (unhide HM2) clsW rfl hz5 _ (unhide ev) ?_)
          go_ret
          exact ⟨retB (b := false) ⟨fun h => (by cases h), fun h => absurd h (unhide no)⟩, unhide B⟩
        subst g1
        by_cases g0 : f0 = clsW
        case neg =>
          have no : Hid (¬ G) := hide (fun g => g0 ((unhide D2).1 g).1)
          have e0 : (f0.toList == [99, 108, 97, 115, 115]) = false := by
            have := str_neY g0
            rwa [show clsW.toList = [99, 108, 97, 115, 115] by rw [ByteArray.toList_eq]; rfl] at this
          clear D2 g0
          go_wp2_with (at_lookup; refine wpList_get_want _ kStr (by rfl) _ _ _ rfl _ Try.underlying52 (zeroAY _) b1 _ _ rfl (unhide HM2) clsW rfl hz5 _ (unhide ev) ?_)
          go_ret
          exact ⟨retB (b := false) ⟨fun h => (by cases h), fun h => absurd h (unhide no)⟩, unhide B⟩
        subst g0
        have yes : Hid G := hide ((unhide D2).2 ⟨rfl, rfl, rfl⟩)
        replace ev : Hid ((M clsW).getD (.agg #[.string ⟨#[]⟩, .int .i64 0, .bool false]) = .agg #[.string ⟨#[99, 108, 97, 115, 115]⟩, .int .i64 2, .bool false]) := ev
        clear D2
        go_wp2_with (at_lookup; refine wpList_get_want _ kStr (by rfl) _ _ _ rfl _ Try.underlying52 (zeroAY _) b1 _ _ rfl (unhide HM2) clsW rfl hz5 _ (unhide ev) ?_)
        go_ret
        exact ⟨retB (b := true) ⟨fun _ => unhide yes, fun _ => rfl⟩, unhide B⟩
    have hk' : k < l.length := by have := unhide HL; omega
    obtain ⟨b1', off1, e1, row1⟩ := ((unhide HS).keep (unhide B)).at hlt
    simp only at e1
    subst e1
    have c0 := row1.c0 k hk'
    have c1 := row1.c1 k hk'
    have c2 := row1.c2 k hk'
    have r0 := (unhide R).at (o := 0) (v := .map (some b1)) rfl
    have r1 := (unhide R).at (o := 1) (v := .map (some b2)) rfl
    have zl := (unhide R).lt
    have bA : Below wr.heap.size wr (wr.alloc (.cells #[.string l[k].t.f0, .int .i64 l[k].t.f1, .bool l[k].t.f2] 38)) := bAl (Below.refl _ _) _
    have BN := hide (bTr (unhide B) bA)
    have RN := hide ((unhide R).keep bA)
    have q3 := hide (unhide q1 l[k] (List.getElem_mem hk'))
    have NOP : Hid (¬ PX l[k] → ¬ G) := hide (fun g h => g (((unhide D0).1 h).1 _ (List.getElem_mem hk')))
    have STP : Hid (PX l[k] → ∀ i (h : i < l.length), i < k + 1 → PX l[i]) := hide (fun g i hi h1 => by
      rcases Nat.lt_or_ge i k with h2 | h2
      · exact unhide hA i hi h2
      · obtain rfl : i = k := by omega
        exact g)
    clear row1 hA bA q1 q2 D0 B R
    generalize PX l[k] = PP at NOP STP q3
    generalize l[k] = A at *
    go_wp2_with fail
    refine (unhide q3 _ (unhide BN)).mono ?_
    rintro r w1 ⟨⟨v, rfl, hv⟩, hb⟩
    have HV := hide hv
    replace RN := hide ((unhide RN).keep hb)
    replace BN := hide (bTr (unhide BN) hb)
    clear hb hv q3 r0 r1 c0 c1 c2
    cases v
    · have no := hide (unhide NOP (fun h => by have := (unhide HV).2 h; cases this))
      clear NOP STP HV
      go_wp2_with fail
      go_ret
      exact ⟨retB (b := false) ⟨fun h => (by cases h), fun h => absurd h (unhide no)⟩, unhide BN⟩
    · have S := hide (unhide STP ((unhide HV).1 rfl))
      clear NOP STP HV
      go_wp2_with fail
      exact ⟨⟨k + 1, by omega, by go_num, BN, RN, S⟩, by simp [intOf]; omega⟩
end Go.Proofs.Ytobmdeoppbjjpaa.V
