/- OSc, OJu, one behind the other. -/
import Derived.Test.YtfbncneeimikcaaGreatJ23
import Derived.Test.YtfbncneeimikcaaGreatJ25
import Derived.BigQuiet
/- spec.GoodRoleSet. -/
namespace Go.Proofs.YtfbncneeimikcaaGreat.V
set_option linter.unusedSimpArgs false
set_option linter.unusedVariables false
open Go.RowKit Go.Maps

theorem RetB.t {e : Ending} {p : Prop} (h : RetB e p) (hp : p) : e = .returned (.bool true) := by obtain ⟨b, rfl, hb⟩ := h; rw [hb.2 hp]
theorem RetB.f {e : Ending} {p : Prop} (h : RetB e p) (hp : ¬ p) : e = .returned (.bool false) := by
  obtain ⟨b, rfl, hb⟩ := h
  cases b
  · rfl
  · exact absurd (hb.1 rfl) hp
theorem callsT {P : Program} {f : FuncId} {args : Array Value} {w : World} {p : Prop} (h : Calls P f args w fun e w' => RetB e p ∧ Below w.heap.size w w') (hp : p) : Calls P f args w fun e w' => e = .returned (.bool true) ∧ Below w.heap.size w w' := h.mono fun _ _ k => ⟨k.1.t hp, k.2⟩
theorem callsF {P : Program} {f : FuncId} {args : Array Value} {w : World} {p : Prop} (h : Calls P f args w fun e w' => RetB e p ∧ Below w.heap.size w w') (hp : ¬ p) : Calls P f args w fun e w' => e = .returned (.bool false) ∧ Below w.heap.size w w' := h.mono fun _ _ k => ⟨k.1.f hp, k.2⟩
def RoAt (ns : List ByteArray) (l : List RoleE) (i : Nat) : Prop := ∀ h : i < l.length, goodName l[i].t.f0 = true ∧ (0 < i → cmpT l[i - 1].t.f0.data.toList l[i].t.f0.data.toList < 0) ∧ AllR ns l[i].t.f1 ∧ GPm l[i].t.f2
theorem roles_iff (l : List RoleE) (pl : List ApartE) (g : List ByteArray) : GRs ⟨l.map (·.t), pl.map (·.t), g⟩ ↔ ((l.length ≤ 30 ∧ pl.length ≤ 10 ∧ AllR (nms (l.map (·.t))) g) ∧ (∀ i, i < l.length → RoAt (nms (l.map (·.t))) l i) ∧ (∀ e ∈ l, ¬ Rch (l.map (·.t)) e.t.f0 e.t.f0) ∧ ∀ p ∈ pl, GAp (nms (l.map (·.t))) p.t) := by
  unfold GRs GIn GUn GEnd GPa GRo
  simp only [List.length_map]
  constructor
  · rintro ⟨⟨⟨h1, h2⟩, h3⟩, h4, h5, ⟨h6, h7⟩, h8⟩
    refine ⟨⟨h1, h6, h8⟩, fun i _ hi => ?_, fun e he => h5 _ (List.mem_map_of_mem he), fun p hp => h7 _ (List.mem_map_of_mem hp)⟩
    have hm := List.mem_map_of_mem (f := fun e : RoleE => e.t) (List.getElem_mem hi)
    refine ⟨(h2 _ hm).1, fun h0 => ?_, h4 _ hm, (h2 _ hm).2⟩
    obtain ⟨j, rfl⟩ : ∃ j, i = j + 1 := ⟨i - 1, by omega⟩
    have := h3 j (by simpa [nms] using hi)
    simpa [nms] using this
  · rintro ⟨⟨h1, h6, h8⟩, h2, h5, h7⟩
    have hR : ∀ r ∈ l.map (·.t), ∃ i, ∃ hi : i < l.length, l[i].t = r := fun r hr => by
      obtain ⟨e, he, rfl⟩ := List.mem_map.1 hr
      obtain ⟨i, hi, rfl⟩ := List.getElem_of_mem he
      exact ⟨i, hi, rfl⟩
    refine ⟨⟨⟨h1, fun r hr => ?_⟩, fun i hi => ?_⟩, fun r hr => ?_, fun r hr => ?_, ⟨h6, fun p hp => ?_⟩, h8⟩
    · obtain ⟨i, hi, rfl⟩ := hR r hr
      exact ⟨(h2 i hi hi).1, (h2 i hi hi).2.2.2⟩
    · have hi' : i + 1 < l.length := by simpa [nms] using hi
      have := (h2 (i + 1) hi' hi').2.1 (Nat.succ_pos _)
      simpa [nms] using this
    · obtain ⟨i, hi, rfl⟩ := hR r hr
      exact (h2 i hi hi).2.2.1
    · obtain ⟨e, he, rfl⟩ := List.mem_map.1 hr
      exact h5 e he
    · obtain ⟨e, he, rfl⟩ := List.mem_map.1 hp
      exact h7 e he
/-- Of good roles: they are few, and so is what stands under them. -/
theorem roles_few (l : List RoleE) (h : l.length ≤ 30) (h2 : ∀ i, i < l.length → RoAt (nms (l.map (·.t))) l i) : (nms (l.map (·.t))).Nodup ∧ (∀ e ∈ l, e.t.f1.length ≤ 30) ∧ (allU l).length ≤ 900 := by
  have hr : RisT (nms (l.map (·.t))) := fun i hi => by
    have hi' : i + 1 < l.length := by simpa [nms] using hi
    have := (h2 (i + 1) hi' hi').2.1 (Nat.succ_pos _)
    simpa [nms] using this
  have hl : ∀ e ∈ l, e.t.f1.length ≤ 30 := fun e he => by
    obtain ⟨i, hi, rfl⟩ := List.getElem_of_mem he
    have h3 := (h2 i hi hi).2.2.1
    have := nodup_le _ _ h3.2.nodup h3.1
    simp [nms] at this
    omega
  refine ⟨hr.nodup, hl, ?_⟩
  have : ∀ (k : List RoleE), (∀ e ∈ k, e.t.f1.length ≤ 30) → (allU k).length ≤ k.length * 30 := by
    intro k
    induction k with
    | nil => intro _; simp [allU]
    | cons x k ih =>
      intro hk
      have h1 := ih (fun e he => hk e (List.mem_cons_of_mem _ he))
      have h2 := hk x (List.mem_cons_self ..)
      unfold allU at *
      rw [List.flatMap_cons, List.length_append, List.length_cons]
      omega
  have := this l hl
  omega
set_option maxRecDepth 40000 in
set_option maxHeartbeats 16000000 in
theorem sGoodRoleSet_n (e : RoleSetE) (w : World) (hn : RoleSetN e.t) (hm : RoleSetM w 0 e) :
    Calls Tryz.prog 23 #[.agg #[.slice e.h0.a e.h0.len e.h0.cap, .slice e.h1.a e.h1.len e.h1.cap, .slice e.h2.a e.h2.len e.h2.cap]] w fun r w' => RetB r (GRs e.t) ∧ Below w.heap.size w w' := by
  obtain ⟨⟨xs, ps, gs⟩, ⟨a0, n0, k0⟩, ⟨a1, n1, k1⟩, h2⟩ := e
  obtain ⟨st, sa, sg, _⟩ := hm
  obtain ⟨ot, lt', oa, la', og, lg, _⟩ := hn
  simp only at st sa sg ot lt' oa la' og lg ⊢
  obtain ⟨l, rfl, st⟩ := st
  obtain ⟨pl, rfl, sa⟩ := sa
  have HTN : Hid (∀ e ∈ l, RoleN e.t) := hide (fun e he => ot _ (List.mem_map_of_mem he))
  have HAN : Hid (∀ e ∈ pl, ApartN e.t) := hide (fun e he => oa _ (List.mem_map_of_mem he))
  have LTM : l.length ≤ maxLen := by simpa using lt'
  have LAM : pl.length ≤ maxLen := by simpa using la'
  have HTL : Hid (n0 = l.length) := hide st.1
  have HAL : Hid (n1 = pl.length) := hide sa.1
  have HT := hide st
  have HA := hide sa
  have qA := hide (fun (h : Hd) (k : List ByteArray) (w' : World) (hb : Below w.heap.size w w') (ll : k.length ≤ maxLen) (ho : ∀ q ∈ k, ByteArray.size q ≤ maxLen) (sk : SqS w 0 h k) => l15All_n ⟨a0, n0, k0⟩ ⟨a1, n1, k1⟩ h2 l h k w' LTM ll ho (st.keep hb) (sk.keep hb))
  have qU := hide (fun (h : Hd) (k : List ByteArray) (w' : World) (hb : Below w.heap.size w w') (hU : (allU l).length ≤ 20000) (hnl : k.length ≤ 20000) (ho : ∀ q ∈ k, ByteArray.size q ≤ maxLen) (sk : SqS w 0 h k) => l15Under_n ⟨a0, n0, k0⟩ ⟨a1, n1, k1⟩ h2 l h k w' LTM (st.keep hb) (unhide HTN) hU (sk.keep hb) hnl ho)
  have qg := hide (fun (w' : World) (hb : Below w.heap.size w w') => unhide qA h2 gs w' hb lg og sg)
  have D := hide (roles_iff l pl gs)
  have RF := hide (roles_few l)
  generalize GRs ⟨l.map (·.t), pl.map (·.t), gs⟩ = G at D ⊢
  obtain ⟨ns, hns⟩ : ∃ ns, ns = nms (l.map (·.t)) := ⟨_, rfl⟩
  rw [← hns] at D qg RF
  have NS := hide hns.symm
  have R := hide (RowIs.new w #[.slice a0 n0 k0, .slice a1 n1 k1, .slice h2.a h2.len h2.cap] 38)
  have B := hide (bAl (Below.refl w.heap.size w) (.cells #[.slice a0 n0 k0, .slice a1 n1 k1, .slice h2.a h2.len h2.cap] 38))
  unfold maxLen at LTM LAM
  have z0 : n0 ≤ 9223372036854775807 := by have := unhide HTL; omega
  have z1 : n1 ≤ 9223372036854775807 := by have := unhide HAL; omega
  have r0 := (unhide R).at (o := 0) (v := .slice a0 n0 k0) rfl
  have r1 := (unhide R).at (o := 1) (v := .slice a1 n1 k1) rfl
  have r2 := (unhide R).at (o := 2) (v := .slice h2.a h2.len h2.cap) rfl
  clear st sa sg ot lt' oa la' og lg LTM LAM hns
  go_enter Tryz.func23, Tryz.ntmps23
  by_cases m0 : 30 < n0
  · have no : Hid (¬ G) := hide (fun g => by have := ((unhide D).1 g).1.1; have := unhide HTL; omega)
    have d0 : decide ((30 : Int) < (n0 : Int)) = true := by simpa using (by omega : (30 : Int) < (n0 : Int))
    clear D HT HA HTN HAN qA qU qg RF
    go_wp2_with fail
    go_ret
    exact ⟨retB (b := false) ⟨fun h => (by cases h), fun h => absurd h (unhide no)⟩, unhide B⟩
  have d0 : decide ((30 : Int) < (n0 : Int)) = false := by simp; omega
  by_cases m1 : 10 < n1
  · have no : Hid (¬ G) := hide (fun g => by have := ((unhide D).1 g).1.2.1; have := unhide HAL; omega)
    have d1 : decide ((10 : Int) < (n1 : Int)) = true := by simpa using (by omega : (10 : Int) < (n1 : Int))
    clear D HT HA HTN HAN qA qU qg RF
    go_wp2_with fail
    go_ret
    exact ⟨retB (b := false) ⟨fun h => (by cases h), fun h => absurd h (unhide no)⟩, unhide B⟩
  have d1 : decide ((10 : Int) < (n1 : Int)) = false := by simp; omega
  go_wp2_with fail
  refine (unhide qg _ (unhide B)).mono ?_
  rintro r w1 ⟨⟨v, rfl, hv⟩, hb⟩
  have HV := hide hv
  replace R := hide ((unhide R).keep hb)
  replace B := hide (bTr (unhide B) hb)
  clear hb hv qg r0 r1 r2
  cases v
  case false =>
    have no : Hid (¬ G) := hide (fun g => by have := (unhide HV).2 ((unhide D).1 g).1.2.2; cases this)
    clear D HT HA HTN HAN qA qU RF HV
    go_wp2_with fail
    go_ret
    exact ⟨retB (b := false) ⟨fun h => (by cases h), fun h => absurd h (unhide no)⟩, unhide B⟩
  have D1 : Hid (G ↔ ((∀ i, i < l.length → RoAt ns l i) ∧ (∀ e ∈ l, ¬ Rch (l.map (·.t)) e.t.f0 e.t.f0) ∧ ∀ p ∈ pl, GAp ns p.t)) := hide ((unhide D).trans ⟨fun h => h.2, fun h => ⟨⟨by have := unhide HTL; omega, by have := unhide HAL; omega, (unhide HV).1 rfl⟩, h⟩⟩)
  have L30 : l.length ≤ 30 := by have := unhide HTL; omega
  have r0 := (unhide R).at (o := 0) (v := .slice a0 n0 k0) rfl
  clear D HV d0 d1
  go_wp2_with fail
  clear r0
  go_loopw [31] (fun i w' => ∃ k : Nat, k ≤ n0 ∧ i = .int .i64 k ∧ Hid (Below w.heap.size w w') ∧ Hid (RowIs w' w.heap.size #[.slice a0 n0 k0, .slice a1 n1 k1, .slice h2.a h2.len h2.cap] 38) ∧ Hid (∀ i, i < k → RoAt ns l i)) (fun i _ => n0 - (Go.RowKit.intOf i).toNat)
  case atStart => exact ⟨0, Nat.zero_le _, rfl, B, R, hide (fun i h => absurd h (Nat.not_lt_zero _))⟩
  case round =>
    clear B R
    obtain ⟨k, hk, rfl, B, R, hA⟩ := hrel
    by_cases hlt : k < n0
    case neg =>
      have TALL : Hid (∀ i, i < l.length → RoAt ns l i) := hide (fun i hi => unhide hA i (by have := unhide HTL; omega))
      have r0 := (unhide R).at (o := 0) (v := .slice a0 n0 k0) rfl
      obtain ⟨few1, few2, few3⟩ := unhide RF L30 (unhide TALL)
      rw [← unhide NS] at few1
      have ND := hide few1
      have D2 : Hid (G ↔ ((∀ e ∈ l, ¬ Rch (l.map (·.t)) e.t.f0 e.t.f0) ∧ ∀ p ∈ pl, GAp ns p.t)) := hide ((unhide D1).trans ⟨fun h => h.2, fun h => ⟨unhide TALL, h⟩⟩)
      have F2 := hide few2
      have F3 := hide few3
      clear hA few1 few2 few3 RF D1 TALL
      go_wp2_with fail
      clear r0 hk hlt
      go_loopw [91] (fun i w' => ∃ k : Nat, k ≤ n0 ∧ i = .int .i64 k ∧ Hid (Below w.heap.size w w') ∧ Hid (RowIs w' w.heap.size #[.slice a0 n0 k0, .slice a1 n1 k1, .slice h2.a h2.len h2.cap] 38) ∧ Hid (∀ i (h : i < l.length), i < k → ¬ Rch (l.map (·.t)) l[i].t.f0 l[i].t.f0)) (fun i _ => n0 - (Go.RowKit.intOf i).toNat)
      case atStart => exact ⟨0, Nat.zero_le _, rfl, B, R, hide (fun i _ h => absurd h (Nat.not_lt_zero _))⟩
      case round =>
        clear B R
        obtain ⟨k, hk, rfl, B, R, hA⟩ := hrel
        by_cases hlt : k < n0
        case neg =>
          have EALL : Hid (∀ e ∈ l, ¬ Rch (l.map (·.t)) e.t.f0 e.t.f0) := hide (fun e he => by
            obtain ⟨i, hi, rfl⟩ := List.getElem_of_mem he
            exact unhide hA i hi (by have := unhide HTL; omega))
          have D3 : Hid (G ↔ ∀ p ∈ pl, GAp ns p.t) := hide ((unhide D2).trans ⟨fun h => h.2, fun h => ⟨unhide EALL, h⟩⟩)
          have r1 := (unhide R).at (o := 1) (v := .slice a1 n1 k1) rfl
          clear hA D2 EALL ND F2 F3 qU
          go_wp2_with fail
          clear r1 hk hlt
          go_loopw [106] (fun i w' => ∃ k : Nat, k ≤ n1 ∧ i = .int .i64 k ∧ Hid (Below w.heap.size w w') ∧ Hid (RowIs w' w.heap.size #[.slice a0 n0 k0, .slice a1 n1 k1, .slice h2.a h2.len h2.cap] 38) ∧ Hid (∀ i (h : i < pl.length), i < k → GAp ns pl[i].t)) (fun i _ => n1 - (Go.RowKit.intOf i).toNat)
          case atStart => exact ⟨0, Nat.zero_le _, rfl, B, R, hide (fun i _ h => absurd h (Nat.not_lt_zero _))⟩
          case round =>
            clear B R
            obtain ⟨k, hk, rfl, B, R, hA⟩ := hrel
            by_cases hlt : k < n1
            case neg =>
              have YES : Hid G := hide ((unhide D3).2 (fun e he => by
                obtain ⟨i, hi, rfl⟩ := List.getElem_of_mem he
                exact unhide hA i hi (by have := unhide HAL; omega)))
              clear hA D3 qA HT HA HTN HAN
              go_wp2_with fail
              go_ret
              exact ⟨retB (b := true) ⟨fun _ => unhide YES, fun _ => rfl⟩, unhide B⟩
            have hk' : k < pl.length := by have := unhide HAL; omega
            obtain ⟨b, off, e0, hrow⟩ := ((unhide HA).keep (unhide B)).at hlt
            simp only at e0
            subst e0
            have c0 := hrow.c0 k hk'
            have c1 := hrow.c1 k hk'
            have c2 := hrow.c2 k hk'
            have hnk := unhide HAN _ (List.getElem_mem hk')
            have MM := (unhide HA).2.2 _ (List.getElem_mem hk')
            have EL := hide MM.m0.1
            have NO : Hid (¬ GAp ns pl[k].t → ¬ G) := hide (fun h g => h ((unhide D3).1 g _ (List.getElem_mem hk')))
            have STP : Hid (GAp ns pl[k].t → ∀ i (h : i < pl.length), i < k + 1 → GAp ns pl[i].t) := hide (fun g i hi h1 => by
              rcases Nat.lt_or_ge i k with h2 | h2
              · exact unhide hA i hi h2
              · obtain rfl : i = k := by omega
                exact g)
            have GE : Hid (GAp ns pl[k].t ↔ AllR ns pl[k].t.f0 ∧ 1 ≤ pl[k].t.f1 ∧ pl[k].t.f1 < pl[k].t.f0.length) := hide Iff.rfl
            obtain ⟨W, hW⟩ : ∃ W, W = wr.alloc (.cells #[.slice pl[k].h0.a pl[k].h0.len pl[k].h0.cap, .int .i64 pl[k].t.f1, .bool pl[k].t.f2] 109) := ⟨_, rfl⟩
            have bW : Below wr.heap.size wr W := by rw [hW]; exact bAl (Below.refl _ _) _
            have qW : RowIs W wr.heap.size #[.slice pl[k].h0.a pl[k].h0.len pl[k].h0.cap, .int .i64 pl[k].t.f1, .bool pl[k].t.f2] 109 := by rw [hW]; exact RowIs.new wr _ _
            have HW := hide hW.symm
            have rw_ := (unhide R).keep bW
            have bk := hide (bTr (unhide B) bW)
            have qp := hide (fun (w' : World) (hb : Below W.heap.size W w') => unhide qA pl[k].h0 pl[k].t.f0 w' (bTr (unhide bk) hb) hnk.l0 hnk.o0 MM.m0)
            rw [unhide NS] at qp
            have hlm := hnk.l0
            unfold maxLen at hlm
            have zl : pl[k].h0.len ≤ 9223372036854775807 := by have := unhide EL; omega
            have RW := hide rw_
            have QW := hide qW
            clear hW hA hrow hnk MM B R D3 hlm
            generalize GAp ns pl[k].t = GG at NO STP GE
            generalize AllR ns pl[k].t.f0 = AA at GE qp
            generalize pl[k] = A at *
            obtain ⟨⟨f0, f1, f2⟩, ⟨ga, gl, gc⟩⟩ := A
            simp only at *
            have s0 := rw_.at (o := 0) (v := .slice a0 n0 k0) rfl
            have s1 := rw_.at (o := 1) (v := .slice (some ⟨b, off, none⟩) n1 k1) rfl
            have s2 := rw_.at (o := 2) (v := .slice h2.a h2.len h2.cap) rfl
            have s3 := qW.at (o := 0) (v := .slice ga gl gc) rfl
            have s4 := qW.at (o := 1) (v := .int .i64 f1) rfl
            clear rw_ qW
            by_cases g2 : gl < 2
            · have no := hide (unhide NO (fun h => by have := (unhide GE).1 h; have := unhide EL; omega))
              have d : decide ((gl : Int) < 2) = true := decide_eq_true (by omega)
              clear NO STP GE g2 qp
              go_upto_region 24 with fail
              rw [unhide HW]
              go_wp2_with fail
              go_ret
              exact ⟨retB (b := false) ⟨fun h => (by cases h), fun h => absurd h (unhide no)⟩, unhide bk⟩
            have d : decide ((gl : Int) < 2) = false := by simp; omega
            go_upto_region 24 with fail
            rw [unhide HW]
            go_wp2_with fail
            refine (unhide qp _ (Below.refl _ _)).mono ?_
            rintro r w2 ⟨⟨v, rfl, hv⟩, hb⟩
            have HV := hide hv
            have RW2 := hide ((unhide RW).keep hb)
            have q2 := (unhide QW).keep hb
            have s3 := q2.at (o := 0) (v := .slice ga gl gc) rfl
            have s4 := q2.at (o := 1) (v := .int .i64 f1) rfl
            have B2 := hide (bTr (unhide bk) hb)
            clear hv hb qp q2 RW QW HW bk c0 c1 c2
            cases v
            · have no := hide (unhide NO (fun h => by have := (unhide HV).2 ((unhide GE).1 h).1; cases this))
              clear NO STP GE HV
              go_wp2_with fail
              go_ret
              exact ⟨retB (b := false) ⟨fun h => (by cases h), fun h => absurd h (unhide no)⟩, unhide B2⟩
            by_cases g3 : f1 < 1
            · have no := hide (unhide NO (fun h => by have := (unhide GE).1 h; omega))
              have d3 : decide (f1 < 1) = true := decide_eq_true g3
              clear NO STP GE HV g3
              go_wp2_with fail
              go_ret
              exact ⟨retB (b := false) ⟨fun h => (by cases h), fun h => absurd h (unhide no)⟩, unhide B2⟩
            have d3 : decide (f1 < 1) = false := by simpa using g3
            by_cases g4 : (gl : Int) ≤ f1
            · have no := hide (unhide NO (fun h => by have := (unhide GE).1 h; have := unhide EL; omega))
              have d4 : decide ((gl : Int) ≤ f1) = true := decide_eq_true g4
              clear NO STP GE HV g3 g4
              go_wp2_with fail
              go_ret
              exact ⟨retB (b := false) ⟨fun h => (by cases h), fun h => absurd h (unhide no)⟩, unhide B2⟩
            have d4 : decide ((gl : Int) ≤ f1) = false := by simpa using g4
            have S := hide (unhide STP ((unhide GE).2 ⟨(unhide HV).1 rfl, by omega, by have := unhide EL; omega⟩))
            clear NO STP GE HV g3 g4
            go_wp2_with fail
            exact ⟨⟨k + 1, by omega, by go_num, B2, RW2, S⟩, by simp [Go.RowKit.intOf]; omega⟩
        have hk' : k < l.length := by have := unhide HTL; omega
        obtain ⟨b, off, e0, hrow⟩ := ((unhide HT).keep (unhide B)).at hlt
        simp only at e0
        subst e0
        have c0 := hrow.c0 k hk'
        have c1 := hrow.c1 k hk'
        have c2 := hrow.c2 k hk'
        have hnk := unhide HTN _ (List.getElem_mem hk')
        have MM := (unhide HT).2.2 _ (List.getElem_mem hk')
        have o0 := hnk.o0
        have F1 := unhide F2 _ (List.getElem_mem hk')
        have YES : Hid (Rch (l.map (·.t)) l[k].t.f0 l[k].t.f0 → ¬ G) := hide (fun h g => ((unhide D2).1 g).1 _ (List.getElem_mem hk') h)
        have STP : Hid (¬ Rch (l.map (·.t)) l[k].t.f0 l[k].t.f0 → ∀ i (h : i < l.length), i < k + 1 → ¬ Rch (l.map (·.t)) l[i].t.f0 l[i].t.f0) := hide (fun g i hi h1 => by
          rcases Nat.lt_or_ge i k with h2 | h2
          · exact unhide hA i hi h2
          · obtain rfl : i = k := by omega
            exact g)
        have UR : Hid (∀ x, UnF (undR (l.map (·.t))) l[k].t.f1 x ↔ Rch (l.map (·.t)) l[k].t.f0 x) := hide (fun x => by
          have h := unf_rch (unhide ND) l[k].t.f0 x
          rw [und_self (unhide ND) (List.mem_map_of_mem (List.getElem_mem hk'))] at h
          exact h)
        obtain ⟨W, hW⟩ : ∃ W, W = wr.alloc (.cells #[.string l[k].t.f0, .slice l[k].h1.a l[k].h1.len l[k].h1.cap, .slice l[k].h2.a l[k].h2.len l[k].h2.cap] 103) := ⟨_, rfl⟩
        have bW : Below wr.heap.size wr W := by rw [hW]; exact bAl (Below.refl _ _) _
        have qW : RowIs W wr.heap.size #[.string l[k].t.f0, .slice l[k].h1.a l[k].h1.len l[k].h1.cap, .slice l[k].h2.a l[k].h2.len l[k].h2.cap] 103 := by rw [hW]; exact RowIs.new wr _ _
        have HW := hide hW.symm
        have rw_ := (unhide R).keep bW
        have bk := hide (bTr (unhide B) bW)
        have qu := hide (fun (w' : World) (hb : Below W.heap.size W w') => unhide qU l[k].h1 l[k].t.f1 w' (bTr (unhide bk) hb) (by have := unhide F3; omega) (by omega) hnk.o1 MM.m1)
        have RW := hide rw_
        have QW := hide qW
        clear hW hA hrow hnk MM B R D2
        generalize l[k] = A at *
        have s0 := rw_.at (o := 0) (v := .slice (some ⟨b, off, none⟩) n0 k0) rfl
        have s1 := rw_.at (o := 1) (v := .slice a1 n1 k1) rfl
        have s2 := rw_.at (o := 2) (v := .slice h2.a h2.len h2.cap) rfl
        have s3 := qW.at (o := 0) (v := .string A.t.f0) rfl
        have s4 := qW.at (o := 1) (v := .slice A.h1.a A.h1.len A.h1.cap) rfl
        clear rw_ qW
        go_wp2_with fail
        rw [unhide HW]
        clear c0 c1 c2 HW
        go_region_held3 (fun w' => w'.cell? ⟨w.heap.size, 0, none⟩ = some (.slice (some ⟨b, off, none⟩) n0 k0) ∧ w'.cell? ⟨w.heap.size, 1, none⟩ = some (.slice a1 n1 k1) ∧ w'.cell? ⟨w.heap.size, 2, none⟩ = some (.slice h2.a h2.len h2.cap) ∧ w'.cell? ⟨wr.heap.size, 0, none⟩ = some (.string A.t.f0) ∧ w'.cell? ⟨wr.heap.size, 1, none⟩ = some (.slice A.h1.a A.h1.len A.h1.cap))
          (first | exact ⟨s0, s1, s2, s3, s4⟩ | exact unhide Y1)
          (first
            | (go_at_call 55; refine (unhide qu _ (Below.refl _ _).drew).mono ?_; rintro r w2 ⟨⟨v, rr, rfl, hr, ho⟩, hb⟩; replace hb := undrew hb; obtain ⟨au, cu, eu, su⟩ := own_strs ho; subst eu; have RW2 := hide ((unhide RW).keep hb); have QW2 := hide ((unhide QW).keep hb); have Y1 := hide (And.intro ((unhide RW2).at (o := 0) (v := .slice (some ⟨b, off, none⟩) n0 k0) rfl) (And.intro ((unhide RW2).at (o := 1) (v := .slice a1 n1 k1) rfl) (And.intro ((unhide RW2).at (o := 2) (v := .slice h2.a h2.len h2.cap) rfl) (And.intro ((unhide QW2).at (o := 0) (v := .string A.t.f0) rfl) ((unhide QW2).at (o := 1) (v := .slice A.h1.a A.h1.len A.h1.cap) rfl))))); have HR := hide hr; have SU := hide su; have B2 := hide (bTr (unhide bk) hb); have q3 := hide (l3Has_any au rr.length cu rr A.t.f0 w2 (Nat.le_trans hr.2.2 (by omega)) su); clear hr ho hb su)
            | (go_at_call 54; refine (unhide q3).mono ?_; rintro r w3 ⟨⟨v, rfl, hv⟩, rfl⟩; have HV := hide hv; clear hv))
        have HD : Hid (v = true ↔ Rch (l.map (·.t)) A.t.f0 A.t.f0) := hide ((unhide HV).trans (((unhide HR).2.1 _).trans (unhide UR _)))
        iterate 14 (try clear hHeld)
        clear HV HR SU q3 qu UR s0 s1 s2 s3 s4 RW QW QW2 Y1
        cases v
        · have S := hide (unhide STP (fun h => by have := (unhide HD).2 h; cases this))
          clear STP YES HD
          go_wp2_with fail
          exact ⟨⟨k + 1, by omega, by go_num, B2, RW2, S⟩, by simp [Go.RowKit.intOf]; omega⟩
        · have no := hide (unhide YES ((unhide HD).1 rfl))
          clear STP YES HD
          go_wp2_with fail
          go_ret
          exact ⟨retB (b := false) ⟨fun h => (by cases h), fun h => absurd h (unhide no)⟩, unhide B2⟩
    have hk' : k < l.length := by have := unhide HTL; omega
    obtain ⟨b, off, e0, hrow⟩ := ((unhide HT).keep (unhide B)).at hlt
    simp only at e0
    subst e0
    have RR := hide hrow
    have zk := hrow.z
    have c0 := hrow.c0 k hk'
    have c1 := hrow.c1 k hk'
    have c2 := hrow.c2 k hk'
    have hnk := unhide HTN _ (List.getElem_mem hk')
    have MM := (unhide HT).2.2 _ (List.getElem_mem hk')
    have M2 := hide MM.m2
    have EL := hide MM.m2.1
    have O2 := hide hnk.o2
    have o0 := hide hnk.o0
    have NO : Hid (¬ ((goodName l[k].t.f0 = true ∧ AllR ns l[k].t.f1 ∧ l[k].t.f2.length ≤ 20 ∧ RisT l[k].t.f2) ∧ (0 < k → cmpT l[k - 1].t.f0.data.toList l[k].t.f0.data.toList < 0)) → ¬ G) := hide (fun h g => h (by have x := ((unhide D1).1 g).1 k hk' hk'; exact ⟨⟨x.1, x.2.2.1, x.2.2.2.1.1, x.2.2.2.2⟩, x.2.1⟩))
    have NOP : Hid (G → ∀ p ∈ l[k].t.f2, goodName p = true) := hide (fun g => (((unhide D1).1 g).1 k hk' hk').2.2.2.1.2)
    have STEP : Hid (((goodName l[k].t.f0 = true ∧ AllR ns l[k].t.f1 ∧ l[k].t.f2.length ≤ 20 ∧ RisT l[k].t.f2) ∧ (0 < k → cmpT l[k - 1].t.f0.data.toList l[k].t.f0.data.toList < 0)) → (∀ p ∈ l[k].t.f2, goodName p = true) → ∀ i, i < k + 1 → RoAt ns l i) := hide (fun g gp i h1 => by
      rcases Nat.lt_or_ge i k with h2 | h2
      · exact unhide hA i h2
      · obtain rfl : i = k := by omega
        exact fun _ => ⟨g.1.1, g.2, g.1.2.1, ⟨g.1.2.2.1, gp⟩, g.1.2.2.2⟩)
    obtain ⟨W, hW⟩ : ∃ W, W = wr.alloc (.cells #[.string l[k].t.f0, .slice l[k].h1.a l[k].h1.len l[k].h1.cap, .slice l[k].h2.a l[k].h2.len l[k].h2.cap] 103) := ⟨_, rfl⟩
    have bW : Below wr.heap.size wr W := by rw [hW]; exact bAl (Below.refl _ _) _
    have qW : RowIs W wr.heap.size #[.string l[k].t.f0, .slice l[k].h1.a l[k].h1.len l[k].h1.cap, .slice l[k].h2.a l[k].h2.len l[k].h2.cap] 103 := by rw [hW]; exact RowIs.new wr _ _
    have HW := hide hW
    have ne : Nonempty (Kept W) := ⟨⟨W, Below.refl _ _⟩⟩
    have qn := hide (fun (q : Kept W) => sGoodName_any l[k].t.f0 (unhide o0) q.w)
    have qt := hide (fun (w' : World) (hb : Below w.heap.size w w') => unhide qA l[k].h1 l[k].t.f1 w' hb hnk.l1 hnk.o1 MM.m1)
    have qa := hide (fun (w' : World) (hb : Below w.heap.size w w') => l3Rising_n l[k].h2 l[k].t.f2 w' hnk.l2 hnk.o2 (MM.m2.keep hb))
    rw [unhide NS] at qt
    have QA : Hid ((∀ i (h : i + 1 < l[k].t.f2.length), cmpT l[k].t.f2[i].data.toList l[k].t.f2[i + 1].data.toList < 0) = RisT l[k].t.f2) := hide rfl
    rw [unhide QA] at qa
    clear QA
    have x0 := kept_cell (W := W) (p := ⟨wr.heap.size, 0, none⟩) qW.lt (qW.at (o := 0) (v := .string l[k].t.f0) rfl)
    have x1 := kept_cell (W := W) (p := ⟨wr.heap.size, 1, none⟩) qW.lt (qW.at (o := 1) (v := .slice l[k].h1.a l[k].h1.len l[k].h1.cap) rfl)
    have x2 := kept_cell (W := W) (p := ⟨wr.heap.size, 2, none⟩) qW.lt (qW.at (o := 2) (v := .slice l[k].h2.a l[k].h2.len l[k].h2.cap) rfl)
    have rw_ := (unhide R).keep bW
    have y0 := kept_cell (W := W) (p := ⟨w.heap.size, 0, none⟩) rw_.lt (rw_.at (o := 0) (v := .slice (some ⟨b, off, none⟩) n0 k0) rfl)
    have y1 := kept_cell (W := W) (p := ⟨w.heap.size, 1, none⟩) rw_.lt (rw_.at (o := 1) (v := .slice a1 n1 k1) rfl)
    have y2 := kept_cell (W := W) (p := ⟨w.heap.size, 2, none⟩) rw_.lt (rw_.at (o := 2) (v := .slice h2.a h2.len h2.cap) rfl)
    have RW := hide rw_
    have bk := hide (bTr (unhide B) bW)
    clear hW rw_ hA hrow hnk MM B R
    generalize AllR ns l[k].t.f1 = PT at NO STEP qt
    generalize RisT l[k].t.f2 = PA at NO STEP qa
    by_cases hk0 : k = 0
    · subst hk0
      simp only [Nat.zero_mul, Nat.add_zero] at c0 c1 c2
      clear qW RR
      generalize l[0] = A at *
      cases g0 : goodName A.t.f0
      · have d := g0
        have no := hide (unhide NO (fun h => by have := h.1.1; rw [g0] at this; cases this))
        rw [g0] at qn
        clear g0 d NO STEP
        go_wp2_with fail
        rw [← unhide HW]
        clear HW c0 c1 c2
        refine wp_region_kept (by kernel_rfl) (by kernel_rfl) ?_
        repeat (first
          | go_big_quiet_step (first | (go_at_call 51; with_reducible exact kept_same (unhide qn _)))
          | quiet_step (first | (go_at_call 51; with_reducible exact kept_same (unhide qn _))))
        refine wpQuiet_nil ?_
        rintro _ ⟨q, rfl⟩
        go_wp2_with fail
        go_ret
        exact ⟨retB (b := false) ⟨fun h => (by cases h), fun h => absurd h (unhide no)⟩, bTr (unhide bk) q.h⟩
      rw [g0] at qn
      by_cases g1 : PT
      case neg =>
        have p1 := hide (fun (q : Kept W) => callsF (unhide qt q.w (bTr (unhide bk) q.h)) g1)
        have no := hide (unhide NO (fun h => g1 (h.1.2.1)))
        clear g1 NO STEP
        go_wp2_with fail
        rw [← unhide HW]
        clear HW c0 c1 c2
        refine wp_region_kept (by kernel_rfl) (by kernel_rfl) ?_
        repeat (first
          | go_big_quiet_step (first | (go_at_call 51; with_reducible exact kept_same (unhide qn _)) | (go_at_call 50; with_reducible exact kept_call (unhide p1 _)))
          | quiet_step (first | (go_at_call 51; with_reducible exact kept_same (unhide qn _)) | (go_at_call 50; with_reducible exact kept_call (unhide p1 _))))
        refine wpQuiet_nil ?_
        rintro _ ⟨q, rfl⟩
        go_wp2_with fail
        go_ret
        exact ⟨retB (b := false) ⟨fun h => (by cases h), fun h => absurd h (unhide no)⟩, bTr (unhide bk) q.h⟩
      have p1 := hide (fun (q : Kept W) => callsT (unhide qt q.w (bTr (unhide bk) q.h)) g1)
      by_cases g2 : A.t.f2.length ≤ 20
      case neg =>
        have d : decide ((20 : Int) < (A.h2.len : Int)) = true := decide_eq_true (by have e1 := unhide EL; omega)
        have no := hide (unhide NO (fun h => g2 h.1.2.2.1))
        clear g2 NO STEP
        go_wp2_with fail
        rw [← unhide HW]
        clear HW c0 c1 c2
        refine wp_region_kept (by kernel_rfl) (by kernel_rfl) ?_
        repeat (first
          | go_big_quiet_step (first | (go_at_call 51; with_reducible exact kept_same (unhide qn _)) | (go_at_call 50; with_reducible exact kept_call (unhide p1 _)))
          | quiet_step (first | (go_at_call 51; with_reducible exact kept_same (unhide qn _)) | (go_at_call 50; with_reducible exact kept_call (unhide p1 _))))
        refine wpQuiet_nil ?_
        rintro _ ⟨q, rfl⟩
        go_wp2_with fail
        go_ret
        exact ⟨retB (b := false) ⟨fun h => (by cases h), fun h => absurd h (unhide no)⟩, bTr (unhide bk) q.h⟩
      have d2 : decide ((20 : Int) < (A.h2.len : Int)) = false := by have e1 := unhide EL; simp; omega
      have L20 : A.h2.len ≤ 20 := by have e1 := unhide EL; omega
      by_cases g3 : PA
      case neg =>
        have p3 := hide (fun (q : Kept W) => callsF (unhide qa q.w (bTr (unhide bk) q.h)) g3)
        have no := hide (unhide NO (fun h => g3 (h.1.2.2.2)))
        clear g3 NO STEP
        go_wp2_with fail
        rw [← unhide HW]
        clear HW c0 c1 c2
        refine wp_region_kept (by kernel_rfl) (by kernel_rfl) ?_
        repeat (first
          | go_big_quiet_step (first | (go_at_call 51; with_reducible exact kept_same (unhide qn _)) | (go_at_call 50; with_reducible exact kept_call (unhide p1 _)) | (go_at_call 53; with_reducible exact kept_call (unhide p3 _)))
          | quiet_step (first | (go_at_call 51; with_reducible exact kept_same (unhide qn _)) | (go_at_call 50; with_reducible exact kept_call (unhide p1 _)) | (go_at_call 53; with_reducible exact kept_call (unhide p3 _))))
        refine wpQuiet_nil ?_
        rintro _ ⟨q, rfl⟩
        go_wp2_with fail
        go_ret
        exact ⟨retB (b := false) ⟨fun h => (by cases h), fun h => absurd h (unhide no)⟩, bTr (unhide bk) q.h⟩
      have p3 := hide (fun (q : Kept W) => callsT (unhide qa q.w (bTr (unhide bk) q.h)) g3)
      have S := hide (unhide STEP ⟨⟨g0, g1, g2, g3⟩, fun h => absurd h (Nat.lt_irrefl _)⟩)
      clear NO STEP g0 g1 g2 g3
      go_wp2_with fail
      rw [← unhide HW]
      clear HW c0 c1 c2
      refine wp_region_kept (by kernel_rfl) (by kernel_rfl) ?_
      repeat (first
        | go_big_quiet_step (first | (go_at_call 51; with_reducible exact kept_same (unhide qn _)) | (go_at_call 50; with_reducible exact kept_call (unhide p1 _)) | (go_at_call 53; with_reducible exact kept_call (unhide p3 _)))
        | quiet_step (first | (go_at_call 51; with_reducible exact kept_same (unhide qn _)) | (go_at_call 50; with_reducible exact kept_call (unhide p1 _)) | (go_at_call 53; with_reducible exact kept_call (unhide p3 _))))
      refine wpQuiet_nil ?_
      rintro _ ⟨q, rfl⟩
      have BE := hide (bTr (unhide bk) q.h)
      have RE := hide ((unhide RW).keep q.h)
      have X2 := x2 q
      clear x0 x1 x2 y0 y1 y2 bk RW qt qa qn 
      go_wp2_with fail
      clear X2
      have hz : ((0 : Nat) : Int) = 0 := rfl
      try rw [hz]
      clear hz
      have dz : decide ((0 : Int) < (n0 : Int)) = true := decide_eq_true (by omega)
      try rw [dz]
      clear dz
      go_loopw [79] (fun i w' => ∃ m : Nat, m ≤ A.h2.len ∧ i = .int .i64 m ∧ Hid (Below w.heap.size w w') ∧ Hid (RowIs w' w.heap.size #[.slice (some ⟨b, off, none⟩) n0 k0, .slice a1 n1 k1, .slice h2.a h2.len h2.cap] 38) ∧ Hid (∀ i (h : i < A.t.f2.length), i < m → goodName A.t.f2[i] = true)) (fun i _ => A.h2.len - (Go.RowKit.intOf i).toNat)
      case atStart => exact ⟨0, Nat.zero_le _, rfl, BE, RE, hide (fun i _ h => absurd h (Nat.not_lt_zero _))⟩
      case round =>
        clear BE RE
        obtain ⟨m, hm, rfl, B, R, hP⟩ := hrel
        by_cases hm2 : m < A.h2.len
        case neg =>
          have S2 := hide (unhide S (fun p hp => by
            obtain ⟨i, hi, rfl⟩ := List.getElem_of_mem hp
            exact unhide hP i hi (by have := unhide EL; omega)))
          clear hP S
          go_wp2_with fail
          exact ⟨⟨0 + 1, by omega, by go_num, B, R, S2⟩, by simp [Go.RowKit.intOf]; omega⟩
        have hm' : m < A.t.f2.length := by have := unhide EL; omega
        obtain ⟨bp, offp, ep, rowp⟩ := ((unhide M2).keep (unhide B)).sl.at hm2
        have n0' := rowp.c m hm'
        have qp := hide (fun w => sGoodName_any A.t.f2[m] (unhide O2 _ (List.getElem_mem hm')) w)
        have NOM : Hid (goodName A.t.f2[m] = false → ¬ G) := hide (fun h g => by have := unhide NOP g _ (List.getElem_mem hm'); rw [h] at this; cases this)
        have STM : Hid (goodName A.t.f2[m] = true → ∀ i (h : i < A.t.f2.length), i < m + 1 → goodName A.t.f2[i] = true) := hide (fun g i hi h1 => by
          rcases Nat.lt_or_ge i m with h2 | h2
          · exact unhide hP i hi h2
          · obtain rfl : i = m := by omega
            exact g)
        clear rowp hP
        generalize A.t.f2[m] = p at n0' qp NOM STM
        generalize A.h2.a = ab at ep ⊢
        subst ep
        go_wp2_with fail
        refine (unhide qp _).mono ?_
        rintro r w4 ⟨rfl, rfl⟩
        clear qp n0'
        cases hg : goodName p
        · have no := hide (unhide NOM hg)
          clear NOM STM hg
          go_wp2_with fail
          go_ret
          exact ⟨retB (b := false) ⟨fun h => (by cases h), fun h => absurd h (unhide no)⟩, unhide B⟩
        · have S3 := hide (unhide STM hg)
          clear NOM STM hg
          go_wp2_with fail
          exact ⟨⟨m + 1, by omega, by go_num, B, R, S3⟩, by simp [Go.RowKit.intOf]; omega⟩
    · obtain ⟨j, rfl⟩ : ∃ j, k = j + 1 := ⟨k - 1, by omega⟩
      have hj : j < l.length := by omega
      have rj := (unhide RR).fr (Fr.below bW 0) (Nat.zero_le _)
      have zj : b < W.heap.size := Nat.lt_of_lt_of_le zk bW.size
      have t0 := kept_cell zj (rj.c0 j hj)
      have qc := hide (fun (q : Kept W) => cmpText_any l[j].t.f0 l[j + 1].t.f0 q.w (unhide HTN _ (List.getElem_mem hj)).o0)
      have dj : decide (0 < (j : Int) + 1) = true := decide_eq_true (by omega)
      have ej : IntKind.i64.wrap ((j : Int) + 1 - 1) = (j : Int) := by rw [IntKind.wrap_i64]; omega
      have i0 : (0 : Int) ≤ (j : Int) := by omega
      have i1 : (j : Int) < (n0 : Int) := by omega
      simp only [Nat.add_sub_cancel] at NO STEP
      clear rj qW RR
      generalize cmpT l[j].t.f0.data.toList l[j + 1].t.f0.data.toList = cc at *
      generalize l[j + 1] = A at *
      generalize l[j] = Pv at *
      cases g0 : goodName A.t.f0
      · have d := g0
        have no := hide (unhide NO (fun h => by have := h.1.1; rw [g0] at this; cases this))
        rw [g0] at qn
        clear g0 d NO STEP
        go_wp2_with fail
        rw [← unhide HW]
        clear HW c0 c1 c2
        refine wp_region_kept (by kernel_rfl) (by kernel_rfl) ?_
        repeat (first
          | go_big_quiet_step (first | (go_at_call 51; with_reducible exact kept_same (unhide qn _)))
          | quiet_step (first | (go_at_call 51; with_reducible exact kept_same (unhide qn _))))
        refine wpQuiet_nil ?_
        rintro _ ⟨q, rfl⟩
        go_wp2_with fail
        go_ret
        exact ⟨retB (b := false) ⟨fun h => (by cases h), fun h => absurd h (unhide no)⟩, bTr (unhide bk) q.h⟩
      rw [g0] at qn
      by_cases hc : cc < 0
      case neg =>
        have dc : decide (0 ≤ cc) = true := by simp; omega
        have no := hide (unhide NO (fun h => hc (h.2 (Nat.succ_pos _))))
        clear hc NO STEP
        go_wp2_with fail
        rw [← unhide HW]
        clear HW c0 c1 c2
        refine wp_region_kept (by kernel_rfl) (by kernel_rfl) ?_
        repeat (first
          | go_big_quiet_step (first | (go_at_call 51; with_reducible exact kept_same (unhide qn _)) | (go_at_call 52; with_reducible exact kept_call (unhide qc _)))
          | quiet_step (first | (go_at_call 51; with_reducible exact kept_same (unhide qn _)) | (go_at_call 52; with_reducible exact kept_call (unhide qc _))))
        refine wpQuiet_nil ?_
        rintro _ ⟨q, rfl⟩
        go_wp2_with fail
        go_ret
        exact ⟨retB (b := false) ⟨fun h => (by cases h), fun h => absurd h (unhide no)⟩, bTr (unhide bk) q.h⟩
      have dc : decide (0 ≤ cc) = false := by simp; omega
      by_cases g2 : PT
      case neg =>
        have p2 := hide (fun (q : Kept W) => callsF (unhide qt q.w (bTr (unhide bk) q.h)) g2)
        have no := hide (unhide NO (fun h => g2 (h.1.2.1)))
        clear g2 NO STEP
        go_wp2_with fail
        rw [← unhide HW]
        clear HW c0 c1 c2
        refine wp_region_kept (by kernel_rfl) (by kernel_rfl) ?_
        repeat (first
          | go_big_quiet_step (first | (go_at_call 51; with_reducible exact kept_same (unhide qn _)) | (go_at_call 52; with_reducible exact kept_call (unhide qc _)) | (go_at_call 50; with_reducible exact kept_call (unhide p2 _)))
          | quiet_step (first | (go_at_call 51; with_reducible exact kept_same (unhide qn _)) | (go_at_call 52; with_reducible exact kept_call (unhide qc _)) | (go_at_call 50; with_reducible exact kept_call (unhide p2 _))))
        refine wpQuiet_nil ?_
        rintro _ ⟨q, rfl⟩
        go_wp2_with fail
        go_ret
        exact ⟨retB (b := false) ⟨fun h => (by cases h), fun h => absurd h (unhide no)⟩, bTr (unhide bk) q.h⟩
      have p2 := hide (fun (q : Kept W) => callsT (unhide qt q.w (bTr (unhide bk) q.h)) g2)
      by_cases g3 : A.t.f2.length ≤ 20
      case neg =>
        have d : decide ((20 : Int) < (A.h2.len : Int)) = true := decide_eq_true (by have e1 := unhide EL; omega)
        have no := hide (unhide NO (fun h => g3 h.1.2.2.1))
        clear g3 NO STEP
        go_wp2_with fail
        rw [← unhide HW]
        clear HW c0 c1 c2
        refine wp_region_kept (by kernel_rfl) (by kernel_rfl) ?_
        repeat (first
          | go_big_quiet_step (first | (go_at_call 51; with_reducible exact kept_same (unhide qn _)) | (go_at_call 52; with_reducible exact kept_call (unhide qc _)) | (go_at_call 50; with_reducible exact kept_call (unhide p2 _)))
          | quiet_step (first | (go_at_call 51; with_reducible exact kept_same (unhide qn _)) | (go_at_call 52; with_reducible exact kept_call (unhide qc _)) | (go_at_call 50; with_reducible exact kept_call (unhide p2 _))))
        refine wpQuiet_nil ?_
        rintro _ ⟨q, rfl⟩
        go_wp2_with fail
        go_ret
        exact ⟨retB (b := false) ⟨fun h => (by cases h), fun h => absurd h (unhide no)⟩, bTr (unhide bk) q.h⟩
      have d3 : decide ((20 : Int) < (A.h2.len : Int)) = false := by have e1 := unhide EL; simp; omega
      have L20 : A.h2.len ≤ 20 := by have e1 := unhide EL; omega
      by_cases g4 : PA
      case neg =>
        have p4 := hide (fun (q : Kept W) => callsF (unhide qa q.w (bTr (unhide bk) q.h)) g4)
        have no := hide (unhide NO (fun h => g4 (h.1.2.2.2)))
        clear g4 NO STEP
        go_wp2_with fail
        rw [← unhide HW]
        clear HW c0 c1 c2
        refine wp_region_kept (by kernel_rfl) (by kernel_rfl) ?_
        repeat (first
          | go_big_quiet_step (first | (go_at_call 51; with_reducible exact kept_same (unhide qn _)) | (go_at_call 52; with_reducible exact kept_call (unhide qc _)) | (go_at_call 50; with_reducible exact kept_call (unhide p2 _)) | (go_at_call 53; with_reducible exact kept_call (unhide p4 _)))
          | quiet_step (first | (go_at_call 51; with_reducible exact kept_same (unhide qn _)) | (go_at_call 52; with_reducible exact kept_call (unhide qc _)) | (go_at_call 50; with_reducible exact kept_call (unhide p2 _)) | (go_at_call 53; with_reducible exact kept_call (unhide p4 _))))
        refine wpQuiet_nil ?_
        rintro _ ⟨q, rfl⟩
        go_wp2_with fail
        go_ret
        exact ⟨retB (b := false) ⟨fun h => (by cases h), fun h => absurd h (unhide no)⟩, bTr (unhide bk) q.h⟩
      have p4 := hide (fun (q : Kept W) => callsT (unhide qa q.w (bTr (unhide bk) q.h)) g4)
      have S := hide (unhide STEP ⟨⟨g0, g2, g3, g4⟩, fun _ => hc⟩)
      clear NO STEP g0 g2 g3 g4 hc
      go_wp2_with fail
      rw [← unhide HW]
      clear HW c0 c1 c2
      refine wp_region_kept (by kernel_rfl) (by kernel_rfl) ?_
      repeat (first
        | go_big_quiet_step (first | (go_at_call 51; with_reducible exact kept_same (unhide qn _)) | (go_at_call 52; with_reducible exact kept_call (unhide qc _)) | (go_at_call 50; with_reducible exact kept_call (unhide p2 _)) | (go_at_call 53; with_reducible exact kept_call (unhide p4 _)))
        | quiet_step (first | (go_at_call 51; with_reducible exact kept_same (unhide qn _)) | (go_at_call 52; with_reducible exact kept_call (unhide qc _)) | (go_at_call 50; with_reducible exact kept_call (unhide p2 _)) | (go_at_call 53; with_reducible exact kept_call (unhide p4 _))))
      refine wpQuiet_nil ?_
      rintro _ ⟨q, rfl⟩
      have BE := hide (bTr (unhide bk) q.h)
      have RE := hide ((unhide RW).keep q.h)
      have X2 := x2 q
      clear x0 x1 x2 y0 y1 y2 bk RW qt qa qn qc dc dj ej i0 i1 t0
      go_wp2_with fail
      clear X2
      have hz : ((j + 1 : Nat) : Int) = (j : Int) + 1 := by omega
      try rw [hz]
      clear hz
      have dz : decide ((j : Int) + 1 < (n0 : Int)) = true := decide_eq_true (by omega)
      try rw [dz]
      clear dz
      go_loopw [79] (fun i w' => ∃ m : Nat, m ≤ A.h2.len ∧ i = .int .i64 m ∧ Hid (Below w.heap.size w w') ∧ Hid (RowIs w' w.heap.size #[.slice (some ⟨b, off, none⟩) n0 k0, .slice a1 n1 k1, .slice h2.a h2.len h2.cap] 38) ∧ Hid (∀ i (h : i < A.t.f2.length), i < m → goodName A.t.f2[i] = true)) (fun i _ => A.h2.len - (Go.RowKit.intOf i).toNat)
      case atStart => exact ⟨0, Nat.zero_le _, rfl, BE, RE, hide (fun i _ h => absurd h (Nat.not_lt_zero _))⟩
      case round =>
        clear BE RE
        obtain ⟨m, hm, rfl, B, R, hP⟩ := hrel
        by_cases hm2 : m < A.h2.len
        case neg =>
          have S2 := hide (unhide S (fun p hp => by
            obtain ⟨i, hi, rfl⟩ := List.getElem_of_mem hp
            exact unhide hP i hi (by have := unhide EL; omega)))
          clear hP S
          go_wp2_with fail
          exact ⟨⟨(j + 1) + 1, by omega, by go_num, B, R, S2⟩, by simp [Go.RowKit.intOf]; omega⟩
        have hm' : m < A.t.f2.length := by have := unhide EL; omega
        obtain ⟨bp, offp, ep, rowp⟩ := ((unhide M2).keep (unhide B)).sl.at hm2
        have n0' := rowp.c m hm'
        have qp := hide (fun w => sGoodName_any A.t.f2[m] (unhide O2 _ (List.getElem_mem hm')) w)
        have NOM : Hid (goodName A.t.f2[m] = false → ¬ G) := hide (fun h g => by have := unhide NOP g _ (List.getElem_mem hm'); rw [h] at this; cases this)
        have STM : Hid (goodName A.t.f2[m] = true → ∀ i (h : i < A.t.f2.length), i < m + 1 → goodName A.t.f2[i] = true) := hide (fun g i hi h1 => by
          rcases Nat.lt_or_ge i m with h2 | h2
          · exact unhide hP i hi h2
          · obtain rfl : i = m := by omega
            exact g)
        clear rowp hP
        generalize A.t.f2[m] = p at n0' qp NOM STM
        generalize A.h2.a = ab at ep ⊢
        subst ep
        go_wp2_with fail
        refine (unhide qp _).mono ?_
        rintro r w4 ⟨rfl, rfl⟩
        clear qp n0'
        cases hg : goodName p
        · have no := hide (unhide NOM hg)
          clear NOM STM hg
          go_wp2_with fail
          go_ret
          exact ⟨retB (b := false) ⟨fun h => (by cases h), fun h => absurd h (unhide no)⟩, unhide B⟩
        · have S3 := hide (unhide STM hg)
          clear NOM STM hg
          go_wp2_with fail
          exact ⟨⟨m + 1, by omega, by go_num, B, R, S3⟩, by simp [Go.RowKit.intOf]; omega⟩
end Go.Proofs.YtfbncneeimikcaaGreat.V
/- impl.JuniorsOf, spec.JuniorsOf. -/
namespace Go.Proofs.YtfbncneeimikcaaGreat
open Go.RowKit Go.Maps Go.Sort Go.Shelf
set_option maxHeartbeats 1000000 in
theorem keysSet_nil (w : World) :
    Calls Tryz.prog 33 #[.map none] w fun e w' => (∃ v, e = .returned v ∧ w'.ownsRow w.heap.size 9 1 v 0 []) ∧ Below w.heap.size w w' := by
  obtain ⟨W, hW⟩ : ∃ W, W = w.alloc (.cells #[.map none] 77) := ⟨_, rfl⟩
  have hseq : SeqGives Fence.wide 2 Tryz.prog 95 #[.pointer (some ⟨w.heap.size, 0, none⟩)] encStr (fun ss => ss = []) 0 W := by
    rw [hW]
    exact AnyZ.keys_gives_nil (ρ := Tryz.keys66_ren) { Tryz.keys66 with } Fence.wide _ trivial rfl w.heap.size _ (by simp) (by simp)
  have qs := hide ((callsIn_wide (n := 5)).1 (AnyZ.sorted_in Tryz.sorted65 Fence.wide 5 trivial trivial trivial trivial rfl (by omega) (sorts107 _) (enters_of Tryz.func94 (by kernel_rfl) rfl) 95 #[.pointer (some ⟨w.heap.size, 0, none⟩)] trivial (enters_of Tryz.func95 (by kernel_rfl) rfl) _ _ (by unfold maxLen; omega) (by omega) _ hseq))
  have B0 := hide (show Below w.heap.size w W by rw [hW]; exact bAl (Below.refl _ _) _)
  have HW := hide hW.symm
  clear hseq hW
  go_enter Tryz.func33, Tryz.ntmps33
  go_wp2_with fail
  refine (mapsKeysSet none _).mono ?_
  rintro e w1 ⟨rfl, rfl⟩
  rw [unhide HW]
  go_wp2_with fail
  refine (unhide qs).mono ?_
  rintro e w2 ⟨v, ss, rfl, hp, ho, _, hb⟩
  have FN : Hid (w2.ownsRow w.heap.size 9 1 v 0 []) := hide (by
    subst hp
    have h3 : w2.ownsRow W.heap.size 9 1 v ([] : List (List UInt8)).length ((([] : List (List UInt8)).mergeSort (fun x y => decide (x ≤ y))).map encStr) := ho
    have h2 : w2.ownsRow W.heap.size 9 1 v 0 [] := by simpa using h3
    have hz := (unhide B0).size
    refine ⟨h2.1, h2.2.imp_right ?_⟩
    rintro ⟨g, cap, cur, h1, h2, h3⟩
    exact ⟨g, cap, cur, h1, by omega, h3⟩)
  have B2 := hide (bTr (unhide B0) hb)
  clear hp ho hb qs HW
  go_wp2_with fail
  go_ret
  exact ⟨⟨v, rfl, unhide FN⟩, unhide B2⟩
end Go.Proofs.YtfbncneeimikcaaGreat
namespace Go.Proofs.YtfbncneeimikcaaGreat.V
set_option linter.unusedSimpArgs false
set_option linter.unusedVariables false
open Go.RowKit Go.Maps

/-- What JuniorsOf tells. -/
def JunIs (x : RoleSetT) (role : ByteArray) (r : List ByteArray) : Prop := (GRs x ∧ role ∈ nms x.f0 ∧ RisS r ∧ ∀ y, y ∈ r ↔ jmem x.f0 role y) ∨ (¬ (GRs x ∧ role ∈ nms x.f0) ∧ r = [])
theorem JunIs.uniq {x : RoleSetT} {role : ByteArray} {r s : List ByteArray} (h : JunIs x role r) (k : JunIs x role s) : r = s := by
  rcases h with ⟨h1, h2, h3, h4⟩ | ⟨h1, h2⟩ <;> rcases k with ⟨k1, k2, k3, k4⟩ | ⟨k1, k2⟩
  · exact h3.ext k3 (fun y => (h4 y).trans (k4 y).symm)
  · exact absurd ⟨h1, h2⟩ k1
  · exact absurd ⟨k1, k2⟩ h1
  · rw [h2, k2]
theorem JunIs.len {x : RoleSetT} {role : ByteArray} {r : List ByteArray} (h : JunIs x role r) : r.length ≤ 31 := by
  rcases h with ⟨h1, h2, h3, h4⟩ | ⟨h1, h2⟩
  · have nd : r.Nodup := h3.imp fun {a b} hab e => by subst e; exact cmpB_irr a hab
    have := nodup_le r (role :: nms x.f0) nd (fun y hy => by
      rcases (h4 y).1 hy with e | e
      · rw [e]; exact List.mem_cons_self ..
      · exact List.mem_cons_of_mem _ (rch_in h1.2.1 e))
    have h5 := h1.1.1.1
    simp [nms] at this
    omega
  · rw [h2]; simp
theorem allU_le : ∀ (k : List RoleE), (∀ e ∈ k, e.t.f1.length ≤ 30) → (allU k).length ≤ k.length * 30
  | [], _ => by simp [allU]
  | x :: k, hk => by
    have h1 := allU_le k (fun e he => hk e (List.mem_cons_of_mem _ he))
    have h2 := hk x (List.mem_cons_self ..)
    unfold allU at *
    rw [List.flatMap_cons, List.length_append, List.length_cons]
    omega
theorem grs_few {l : List RoleE} {ps : List ApartT} {gs : List ByteArray} (h : GRs ⟨l.map (·.t), ps, gs⟩) : (allU l).length ≤ 20000 ∧ (nms (l.map (·.t))).Nodup := by
  have h1 := h.1.1.1
  simp at h1
  have := allU_le l (fun e he => by
    have h2 := h.2.1 _ (List.mem_map_of_mem he)
    have := nodup_le _ _ h2.2.nodup h2.1
    simp [nms] at this
    omega)
  exact ⟨by omega, h.1.2.nodup⟩
end Go.Proofs.YtfbncneeimikcaaGreat.V
