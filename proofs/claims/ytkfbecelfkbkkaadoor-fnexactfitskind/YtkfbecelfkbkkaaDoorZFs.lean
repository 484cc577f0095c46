/- spec.FitsKind. -/
import Derived.Test.YtkfbecelfkbkkaaDoorZFi
namespace Go.Proofs.YtkfbecelfkbkkaaDoor.V
set_option linter.unusedSimpArgs false
set_option linter.unusedVariables false
open Go.RowKit

set_option maxRecDepth 20000 in
set_option maxHeartbeats 4000000 in
theorem sFitsKind_any (v : ValT) (h2 h3 : Hd) (kind : ByteArray) (w : World) (ho : v.Ok) (l2 : v.items.length ≤ maxLen) (m2 : SqA w 0 h2 v.items) (m3 : SqS w 0 h3 v.names) (hk : kind.size ≤ maxLen) :
    Calls Tryd.prog 5 #[.agg #[.int .i64 v.k, .int .i64 v.a.x, .int .i64 v.a.n, .string v.a.t, .string v.a.y, .slice h2.a h2.len h2.cap, .slice h3.a h3.len h3.cap], .string kind] w fun e w' => RetB e (Fits v kind) ∧ Below w.heap.size w w' := by
  have D : Hid (Fits v kind ↔ (GoodVal v ∧ ((hdB kind setP = false ∧ v.k = 1 ∧ akind v.a = kind) ∨ (hdB kind setP = true ∧ v.k = 2 ∧ baseOk (rest4 kind) ∧ ∀ a ∈ v.items, akind a = rest4 kind)))) := hide Iff.rfl
  generalize Fits v kind = G at D ⊢
  have q1 := hide (fun w (m2 : SqA w 0 h2 v.items) (m3 : SqS w 0 h3 v.names) => sGoodValue_any v ho h2.a h3.a h2.len h2.cap h3.len h3.cap w m2.sl m3.sl)
  have q2 := hide (fun w => l11Head_any kind ⟨#[115, 101, 116, 32]⟩ w hk (by show (4 : Nat) ≤ maxLen; unfold maxLen; omega))
  have e1 : hdB kind ⟨#[115, 101, 116, 32]⟩ = hdB kind setP := rfl
  rw [e1] at q2
  clear e1
  have EL := hide m2.1
  have LK := hide hk
  have LI : h2.len ≤ maxLen := by rw [m2.1]; exact l2
  unfold maxLen at LI
  have R := hide (RowIs.new w #[.int .i64 v.k, .int .i64 v.a.x, .int .i64 v.a.n, .string v.a.t, .string v.a.y, .slice h2.a h2.len h2.cap, .slice h3.a h3.len h3.cap] 33)
  have B := hide (bAl (Below.refl w.heap.size w) (.cells #[.int .i64 v.k, .int .i64 v.a.x, .int .i64 v.a.n, .string v.a.t, .string v.a.y, .slice h2.a h2.len h2.cap, .slice h3.a h3.len h3.cap] 33))
  have M2 := hide m2
  have M3 := hide m3
  unfold maxLen at hk
  clear ho l2 m2 m3
  go_enter Tryd.func5, Tryd.ntmps5
  go_wp2_with fail
  refine (unhide q1 _ ((unhide M2).keep (unhide B)) ((unhide M3).keep (unhide B))).mono ?_
  rintro r w1 ⟨⟨b1, rfl, hb1⟩, hb⟩
  replace R := hide ((unhide R).keep hb)
  replace B := hide (bTr (unhide B) hb)
  have H1 := hide hb1
  clear hb hb1 q1
  cases b1
  case false =>
    have no : Hid (¬ G) := hide (fun h => by have := (unhide H1).2 ((unhide D).1 h).1; cases this)
    clear D H1 q2
    go_wp2_with fail
    go_ret
    exact ⟨retB (b := false) ⟨fun h => (by cases h), fun h => absurd h (unhide no)⟩, unhide B⟩
  replace H1 := hide ((unhide H1).1 rfl)
  have D2 : Hid (G ↔ ((hdB kind setP = false ∧ v.k = 1 ∧ akind v.a = kind) ∨ (hdB kind setP = true ∧ v.k = 2 ∧ baseOk (rest4 kind) ∧ ∀ a ∈ v.items, akind a = rest4 kind))) := hide ⟨fun h => ((unhide D).1 h).2, fun h => (unhide D).2 ⟨unhide H1, h⟩⟩
  clear D
  go_wp2_with fail
  refine (unhide q2 _).mono ?_
  rintro r w2 ⟨rfl, rfl⟩
  clear q2
  cases hp : hdB kind setP
  · rw [hp] at D2
    by_cases k1 : v.k = 1
    · have qa := hide (fun w => l11AtomKind_any v.a w (goodVal_atom (unhide H1) k1))
      have D3 : Hid (G ↔ akind v.a = kind) := hide ((unhide D2).trans ⟨fun h => h.elim (fun h => h.2.2) (fun h => by cases h.1), fun h => .inl ⟨rfl, k1, h⟩⟩)
      have d1 : (v.k == 1) = true := by simp [k1]
      have c0 := (unhide R).at (o := 0) (v := .int .i64 v.k) rfl
      have c1 := (unhide R).at (o := 1) (v := .int .i64 v.a.x) rfl
      have c2 := (unhide R).at (o := 2) (v := .int .i64 v.a.n) rfl
      have c3 := (unhide R).at (o := 3) (v := .string v.a.t) rfl
      have c4 := (unhide R).at (o := 4) (v := .string v.a.y) rfl
      clear D2 hp k1 H1
      go_wp2_with fail
      refine (unhide qa _).mono ?_
      rintro r w4 ⟨rfl, hb⟩
      replace B := hide (bTr (unhide B) hb)
      clear hb qa c0 c1 c2 c3 c4
      generalize akind v.a = K at D3 ⊢
      by_cases he : K = kind
      · have yes := hide ((unhide D3).2 he)
        have e := (show (K.toList == kind.toList) = true by rw [he]; exact str_eqY _)
        clear he D3
        go_wp2_with fail
        go_ret
        exact ⟨retB (b := true) ⟨fun _ => unhide yes, fun _ => rfl⟩, unhide B⟩
      · have no := hide (fun h => he ((unhide D3).1 h))
        have e := str_neY he
        clear he D3
        go_wp2_with fail
        go_ret
        exact ⟨retB (b := false) ⟨fun h => (by cases h), fun h => absurd h (unhide no)⟩, unhide B⟩
    · have no : Hid (¬ G) := hide (fun h => ((unhide D2).1 h).elim (fun h => k1 h.2.1) (fun h => by cases h.1))
      have d1 : (v.k == 1) = false := by simpa using k1
      have c0 := (unhide R).at (o := 0) (v := .int .i64 v.k) rfl
      clear D2 hp k1 H1
      go_wp2_with fail
      go_ret
      exact ⟨retB (b := false) ⟨fun h => (by cases h), fun h => absurd h (unhide no)⟩, unhide B⟩
  · rw [hp] at D2
    have h4 : 4 < kind.size := by unfold hdB at hp; simp only [Bool.and_eq_true, setP_size] at hp; exact of_decide_eq_true hp.1
    have D3 : Hid (G ↔ (v.k = 2 ∧ baseOk (rest4 kind) ∧ ∀ a ∈ v.items, akind a = rest4 kind)) := hide ((unhide D2).trans ⟨fun h => h.elim (fun h => by cases h.1) (fun h => h.2), fun h => .inr ⟨rfl, h⟩⟩)
    clear D2 hp
    obtain ⟨base, hbase⟩ : ∃ b, b = rest4 kind := ⟨_, rfl⟩
    rw [← hbase] at D3
    have HB : Hid (kind.extract 4 kind.size = base) := hide hbase.symm
    have bz : base.size ≤ maxLen := by rw [hbase]; unfold rest4; refine Nat.le_trans ?_ (unhide LK); simp
    have q4 := hide (fun w => l11Head_any base ⟨#[114, 101, 102, 32]⟩ w bz (by show (4 : Nat) ≤ maxLen; unfold maxLen; omega))
    have e1 : hdB base ⟨#[114, 101, 102, 32]⟩ = hdB base refP := rfl
    rw [e1] at q4
    clear hbase e1
    have R6 := hide (RowIs.new w1 #[.string ⟨#[98, 111, 111, 108]⟩, .string ⟨#[110, 117, 109]⟩, .string ⟨#[116, 101, 120, 116]⟩, .string ⟨#[100, 101, 99]⟩, .string ⟨#[97, 100, 100, 114]⟩, .string ⟨#[116, 105, 109, 101]⟩] 9)
    have B6 := hide (bAl (unhide B) (.cells #[.string ⟨#[98, 111, 111, 108]⟩, .string ⟨#[110, 117, 109]⟩, .string ⟨#[116, 101, 120, 116]⟩, .string ⟨#[100, 101, 99]⟩, .string ⟨#[97, 100, 100, 114]⟩, .string ⟨#[116, 105, 109, 101]⟩] 9))
    have V6 := hide (bAl (Below.refl w1.heap.size w1) (.cells #[.string ⟨#[98, 111, 111, 108]⟩, .string ⟨#[110, 117, 109]⟩, .string ⟨#[116, 101, 120, 116]⟩, .string ⟨#[100, 101, 99]⟩, .string ⟨#[97, 100, 100, 114]⟩, .string ⟨#[116, 105, 109, 101]⟩] 9))
    have q3 : Hid (Calls Tryd.prog 15 #[.slice (some ⟨w1.heap.size, 0, none⟩) 6 6, .string base] (w1.alloc (.cells #[.string ⟨#[98, 111, 111, 108]⟩, .string ⟨#[110, 117, 109]⟩, .string ⟨#[116, 101, 120, 116]⟩, .string ⟨#[100, 101, 99]⟩, .string ⟨#[97, 100, 100, 114]⟩, .string ⟨#[116, 105, 109, 101]⟩] 9)) fun e w' => RetB e (base ∈ six) ∧ w1.alloc (.cells #[.string ⟨#[98, 111, 111, 108]⟩, .string ⟨#[110, 117, 109]⟩, .string ⟨#[116, 101, 120, 116]⟩, .string ⟨#[100, 101, 99]⟩, .string ⟨#[97, 100, 100, 114]⟩, .string ⟨#[116, 105, 109, 101]⟩] 9) = w') := hide (l3Has_anyY _ 6 6 six base _ (by omega) ⟨rfl, .inr ⟨_, 0, rfl, (unhide R6).lt, fun i hi => by
      match i, hi with
      | 0, _ => exact (unhide R6).at rfl
      | 1, _ => exact (unhide R6).at rfl
      | 2, _ => exact (unhide R6).at rfl
      | 3, _ => exact (unhide R6).at rfl
      | 4, _ => exact (unhide R6).at rfl
      | 5, _ => exact (unhide R6).at rfl⟩⟩)
    clear R6
    go_wp2_with fail
    rw [unhide HB]
    clear HB
    refine (unhide q3).mono ?_
    rintro r w4 ⟨⟨b3, rfl, hb3⟩, rfl⟩
    have H3 := hide hb3
    replace R := hide ((unhide R).keep (unhide V6))
    clear hb3 q3 V6 B
    obtain ⟨V0, hV0⟩ : ∃ V, V = w1.alloc (.cells #[.string ⟨#[98, 111, 111, 108]⟩, .string ⟨#[110, 117, 109]⟩, .string ⟨#[116, 101, 120, 116]⟩, .string ⟨#[100, 101, 99]⟩, .string ⟨#[97, 100, 100, 114]⟩, .string ⟨#[116, 105, 109, 101]⟩] 9) := ⟨_, rfl⟩
    rw [← hV0] at R B6 ⊢
    have B := B6
    clear hV0 B6
    cases b3
    · have N3 : Hid (¬ base ∈ six) := hide (fun h => by have := (unhide H3).2 h; cases this)
      clear H3
      go_wp2_with fail
      refine (unhide q4 _).mono ?_
      rintro r w5 ⟨rfl, rfl⟩
      clear q4
      cases hr : hdB base refP
      · have no : Hid (¬ G) := hide (fun h => by
          rcases ((unhide D3).1 h).2.1 with k | k
          · exact unhide N3 k
          · rw [hr] at k; cases k.1)
        clear hr D3 N3 H1
        go_wp2_with fail
        go_ret
        exact ⟨retB (b := false) ⟨fun h => (by cases h), fun h => absurd h (unhide no)⟩, unhide B⟩
      · have h8 : 4 < base.size := by unfold hdB at hr; simp only [Bool.and_eq_true, refP_size] at hr; exact of_decide_eq_true hr.1
        have qn := hide (fun w => sGoodName_any (base.extract 4 base.size) (Nat.le_trans (by simp) bz) w)
        have D5 : Hid (baseOk base ↔ goodName (base.extract 4 base.size) = true) := hide ⟨fun h => h.elim (fun k => absurd k (unhide N3)) (fun k => k.2), fun h => .inr ⟨hr, h⟩⟩
        unfold maxLen at bz
        clear hr N3
        go_wp2_with fail
        refine (unhide qn _).mono ?_
        rintro r w6 ⟨rfl, rfl⟩
        clear qn
        cases hn : goodName (base.extract 4 base.size)
        · have no : Hid (¬ G) := hide (fun h => by have k := (unhide D5).1 ((unhide D3).1 h).2.1; rw [hn] at k; cases k)
          clear hn D3 D5 H1
          go_wp2_with fail
          go_ret
          exact ⟨retB (b := false) ⟨fun h => (by cases h), fun h => absurd h (unhide no)⟩, unhide B⟩
        · have D4 : Hid (G ↔ (v.k = 2 ∧ ∀ a ∈ v.items, akind a = base)) := hide ((unhide D3).trans ⟨fun h => ⟨h.1, h.2.2⟩, fun h => ⟨h.1, (unhide D5).2 hn, h.2⟩⟩)
          clear hn D3 D5
          have c5 := (unhide R).at (o := 5) (v := .slice h2.a h2.len h2.cap) rfl
          go_wp2_with fail
          clear c5
          go_loopw [43] (fun i w' => ∃ k : Nat, k ≤ h2.len ∧ i = .int .i64 k ∧ Hid (Below w.heap.size w w' ∧ Below V0.heap.size V0 w') ∧ Hid (∀ i (h : i < v.items.length), i < k → akind v.items[i] = base)) (fun i _ => h2.len - (intOf i).toNat)
          case atStart => exact ⟨0, Nat.zero_le _, rfl, hide ⟨unhide B, Below.refl _ _⟩, hide (fun i _ h => absurd h (Nat.not_lt_zero _))⟩
          case round =>
            obtain ⟨k, hk, rfl, Bi, hA⟩ := hrel
            by_cases hlt : k < h2.len
            case neg =>
              have ALL : Hid (∀ a ∈ v.items, akind a = base) := hide (fun a ha => by
                obtain ⟨i, hi, rfl⟩ := List.getElem_of_mem ha
                exact unhide hA i hi (by have := unhide EL; omega))
              have c0 := ((unhide R).keep (unhide Bi).2).at (o := 0) (v := .int .i64 v.k) rfl
              have B2 := hide (unhide Bi).1
              by_cases k2 : v.k = 2
              · have yes := hide ((unhide D4).2 ⟨k2, unhide ALL⟩)
                have d : (v.k == 2) = true := by simp [k2]
                clear k2 D4 hA ALL
                go_wp2_with fail
                go_ret
                exact ⟨retB (b := true) ⟨fun _ => unhide yes, fun _ => rfl⟩, unhide B2⟩
              · have no := hide (fun h => k2 ((unhide D4).1 h).1)
                have d : (v.k == 2) = false := by simpa using k2
                clear k2 D4 hA ALL
                go_wp2_with fail
                go_ret
                exact ⟨retB (b := false) ⟨fun h => (by cases h), fun h => absurd h (unhide no)⟩, unhide B2⟩
            have hk' : k < v.items.length := by have := unhide EL; omega
            obtain ⟨b1, off1, e1, row1⟩ := ((unhide M2).keep (unhide Bi).1).sl.at hlt
            have z1 := row1.z
            obtain ⟨p0, p1, p2, p3⟩ := row1.c k hk'
            have qa := hide (fun w => l11AtomKind_any v.items[k] w (goodVal_items (unhide H1) _ (List.getElem_mem hk')))
            have STP : Hid (akind v.items[k] = base → ∀ i (h : i < v.items.length), i < k + 1 → akind v.items[i] = base) := hide (fun g i hi h1 => by
              rcases Nat.lt_or_ge i k with h2 | h2
              · exact unhide hA i hi h2
              · obtain rfl : i = k := by omega
                exact g)
            have NOP : Hid (¬ akind v.items[k] = base → ¬ G) := hide (fun g h => g (((unhide D4).1 h).2 _ (List.getElem_mem hk')))
            have BB := hide (⟨bAl (unhide Bi).1 (.cells #[.int .i64 v.items[k].x, .int .i64 v.items[k].n, .string v.items[k].t, .string v.items[k].y] 30), bAl (unhide Bi).2 (.cells #[.int .i64 v.items[k].x, .int .i64 v.items[k].n, .string v.items[k].t, .string v.items[k].y] 30)⟩ : Below w.heap.size w _ ∧ Below V0.heap.size V0 _)
            clear hA row1 D4
            generalize akind v.items[k] = K at qa STP NOP
            generalize v.items[k] = P at p0 p1 p2 p3 qa BB
            generalize h2.a = aa at e1 ⊢
            subst e1
            go_wp2_with fail
            refine (unhide qa _).mono ?_
            rintro r w7 ⟨rfl, hb⟩
            have BE := hide (⟨bTr (unhide BB).1 hb, bTr (unhide BB).2 hb⟩ : Below w.heap.size w w7 ∧ Below V0.heap.size V0 w7)
            clear hb qa BB p0 p1 p2 p3
            by_cases he : K = base
            · have S := hide (unhide STP he)
              have e : (K.toList == base.toList) = true := by rw [he]; exact str_eqY _
              clear he STP NOP
              go_wp2_with fail
              exact ⟨⟨k + 1, by omega, by go_num, BE, S⟩, by simp [intOf]; omega⟩
            · have no := hide (unhide NOP he)
              have B2 := hide (unhide BE).1
              have e := str_neY he
              clear he STP NOP
              go_wp2_with fail
              go_ret
              exact ⟨retB (b := false) ⟨fun h => (by cases h), fun h => absurd h (unhide no)⟩, unhide B2⟩
    · have Y3 := hide ((unhide H3).1 rfl)
      have D4 : Hid (G ↔ (v.k = 2 ∧ ∀ a ∈ v.items, akind a = base)) := hide ((unhide D3).trans ⟨fun h => ⟨h.1, h.2.2⟩, fun h => ⟨h.1, .inl (unhide Y3), h.2⟩⟩)
      clear D3 H3 Y3 q4
      have c5 := (unhide R).at (o := 5) (v := .slice h2.a h2.len h2.cap) rfl
      go_wp2_with fail
      clear c5
      go_loopw [43] (fun i w' => ∃ k : Nat, k ≤ h2.len ∧ i = .int .i64 k ∧ Hid (Below w.heap.size w w' ∧ Below V0.heap.size V0 w') ∧ Hid (∀ i (h : i < v.items.length), i < k → akind v.items[i] = base)) (fun i _ => h2.len - (intOf i).toNat)
      case atStart => exact ⟨0, Nat.zero_le _, rfl, hide ⟨unhide B, Below.refl _ _⟩, hide (fun i _ h => absurd h (Nat.not_lt_zero _))⟩
      case round =>
        obtain ⟨k, hk, rfl, Bi, hA⟩ := hrel
        by_cases hlt : k < h2.len
        case neg =>
          have ALL : Hid (∀ a ∈ v.items, akind a = base) := hide (fun a ha => by
            obtain ⟨i, hi, rfl⟩ := List.getElem_of_mem ha
            exact unhide hA i hi (by have := unhide EL; omega))
          have c0 := ((unhide R).keep (unhide Bi).2).at (o := 0) (v := .int .i64 v.k) rfl
          have B2 := hide (unhide Bi).1
          by_cases k2 : v.k = 2
          · have yes := hide ((unhide D4).2 ⟨k2, unhide ALL⟩)
            have d : (v.k == 2) = true := by simp [k2]
            clear k2 D4 hA ALL
            go_wp2_with fail
            go_ret
            exact ⟨retB (b := true) ⟨fun _ => unhide yes, fun _ => rfl⟩, unhide B2⟩
          · have no := hide (fun h => k2 ((unhide D4).1 h).1)
            have d : (v.k == 2) = false := by simpa using k2
            clear k2 D4 hA ALL
            go_wp2_with fail
            go_ret
            exact ⟨retB (b := false) ⟨fun h => (by cases h), fun h => absurd h (unhide no)⟩, unhide B2⟩
        have hk' : k < v.items.length := by have := unhide EL; omega
        obtain ⟨b1, off1, e1, row1⟩ := ((unhide M2).keep (unhide Bi).1).sl.at hlt
        have z1 := row1.z
        obtain ⟨p0, p1, p2, p3⟩ := row1.c k hk'
        have qa := hide (fun w => l11AtomKind_any v.items[k] w (goodVal_items (unhide H1) _ (List.getElem_mem hk')))
        have STP : Hid (akind v.items[k] = base → ∀ i (h : i < v.items.length), i < k + 1 → akind v.items[i] = base) := hide (fun g i hi h1 => by
          rcases Nat.lt_or_ge i k with h2 | h2
          · exact unhide hA i hi h2
          · obtain rfl : i = k := by omega
            exact g)
        have NOP : Hid (¬ akind v.items[k] = base → ¬ G) := hide (fun g h => g (((unhide D4).1 h).2 _ (List.getElem_mem hk')))
        have BB := hide (⟨bAl (unhide Bi).1 (.cells #[.int .i64 v.items[k].x, .int .i64 v.items[k].n, .string v.items[k].t, .string v.items[k].y] 30), bAl (unhide Bi).2 (.cells #[.int .i64 v.items[k].x, .int .i64 v.items[k].n, .string v.items[k].t, .string v.items[k].y] 30)⟩ : Below w.heap.size w _ ∧ Below V0.heap.size V0 _)
        clear hA row1 D4
        generalize akind v.items[k] = K at qa STP NOP
        generalize v.items[k] = P at p0 p1 p2 p3 qa BB
        generalize h2.a = aa at e1 ⊢
        subst e1
        go_wp2_with fail
        refine (unhide qa _).mono ?_
        rintro r w7 ⟨rfl, hb⟩
        have BE := hide (⟨bTr (unhide BB).1 hb, bTr (unhide BB).2 hb⟩ : Below w.heap.size w w7 ∧ Below V0.heap.size V0 w7)
        clear hb qa BB p0 p1 p2 p3
        by_cases he : K = base
        · have S := hide (unhide STP he)
          have e : (K.toList == base.toList) = true := by rw [he]; exact str_eqY _
          clear he STP NOP
          go_wp2_with fail
          exact ⟨⟨k + 1, by omega, by go_num, BE, S⟩, by simp [intOf]; omega⟩
        · have no := hide (unhide NOP he)
          have B2 := hide (unhide BE).1
          have e := str_neY he
          clear he STP NOP
          go_wp2_with fail
          go_ret
          exact ⟨retB (b := false) ⟨fun h => (by cases h), fun h => absurd h (unhide no)⟩, unhide B2⟩
end Go.Proofs.YtkfbecelfkbkkaaDoor.V
