/- spec.l5Way, spec.WayOf. -/
import Derived.Test.YtakjnbdjjeccoaaGWay
import Derived.Test.YtakjnbdjjeccoaaGLaw
namespace Go.Proofs.Ytakjnbdjjeccoaa
open Go.RowKit

theorem info2 : True := trivial
theorem own_lit2 (w : World) (g m : Bs) : (w.alloc (.cells #[.string g, .string m] 9)).ownsRow w.heap.size 9 1 (.slice (some ⟨w.heap.size, 0, none⟩) 2 2) [g, m].length ([g, m].map Value.string) :=
  World.ownsRow_lit w #[.string g, .string m] 2 (Nat.le_refl _) (by unfold maxLen; omega) rfl
theorem own_lit1 (w : World) (g : Bs) : (w.alloc (.cells #[.string g] 9)).ownsRow w.heap.size 9 1 (.slice (some ⟨w.heap.size, 0, none⟩) 1 1) [g].length ([g].map Value.string) :=
  World.ownsRow_lit w #[.string g] 1 (Nat.le_refl _) (by unfold maxLen; omega) rfl

set_option maxRecDepth 100000 in
set_option maxHeartbeats 1500000 in
theorem l5Way_any (a : Option Addr) (len cap : Nat) (l : List NestT) (m : Bs) (hG : GoodL l) (h200 : len ≤ 200) : ∀ (k : Nat) (g : Bs) (w : World), k ≤ 200 → SlNest w a len l → Dist (EdR l) g m (k + 1) →
    Calls Try.prog 71 #[.slice a len cap, .string g, .string m, .int .i64 ((k : Int) + 1)] w fun e w' => (∃ v p, e = .returned v ∧ WayS (EdR l) m k g p ∧ w'.ownsRow w.heap.size 9 1 v p.length (p.map Value.string)) ∧ Below w.heap.size w w' := by
  intro k
  induction k with
  | zero =>
    intro g w hk hs hd
    have HS := hide hs
    have HL := hide hs.1
    have HD := hide hd
    clear hs hd hk
    go_enter Try.func71, Try.ntmps71
    go_wp2_with fail
    go_loopw [13] (fun i wr => ∃ q : Nat, q ≤ len ∧ i = .int .i64 q ∧ Hid (NoneW l g m 0 q) ∧ Hid (Below w.heap.size w wr)) (fun i _ => len - (Go.RowKit.intOf i).toNat)
    case atStart => exact ⟨0, Nat.zero_le _, rfl, hide (fun j h h1 => absurd h1 (Nat.not_lt_zero _)), hide (Below.refl _ _)⟩
    case round =>
      obtain ⟨q, hq, rfl, hN, hB⟩ := hrel
      by_cases hlt : q < len
      · have hq' : q < l.length := by rw [← unhide HL]; exact hlt
        obtain ⟨b, off, rfl, hrow⟩ := ((unhide HS).keep (unhide hB)).at hlt
        have c0 := hrow.c0 q hq'
        have c1 := hrow.c1 q hq'
        have zk := hrow.z
        have eS := hide (fun h => (unhide hN).step hq' h)
        have B2 := hide (bAl (unhide hB) (.cells #[.string (l[q]).f0, .string (l[q]).f1] 42))
        clear hrow
        generalize l[q] = A at c0 c1 eS B2
        by_cases e0 : A.f0 = g
        · have h0 : (ByteArray.toList A.f0 == ByteArray.toList g) = true := by rw [e0]; exact str_eq g
          by_cases e1 : A.f1 = m
          · have h1 : (ByteArray.toList A.f1 == ByteArray.toList m) = true := by rw [e1]; exact str_eq m
            have O2 := hide (own_base (own_lit2 (wr.alloc (.cells #[.string A.f0, .string A.f1] 42)) g m) (unhide B2).size)
            have B3 := hide (bAl (unhide B2) (.cells #[.string g, .string m] 9))
            clear eS e0 e1
            go_wp2_with fail
            go_ret
            exact ⟨⟨_, [g, m], rfl, rfl, by simpa using unhide O2⟩, unhide B3⟩
          · have h1 : (ByteArray.toList A.f1 == ByteArray.toList m) = false := str_ne e1
            have N2 := hide (unhide eS (fun _ h => e1 h))
            clear eS e0 e1
            go_wp2_with fail
            exact ⟨⟨q + 1, by omega, by go_num, N2, B2⟩, by simp [Go.RowKit.intOf]; omega⟩
        · have h0 : (ByteArray.toList A.f0 == ByteArray.toList g) = false := str_ne e0
          have N2 := hide (unhide eS (fun h => absurd h e0))
          clear eS e0
          go_wp2_with fail
          exact ⟨⟨q + 1, by omega, by go_num, N2, B2⟩, by simp [Go.RowKit.intOf]; omega⟩
      · have e : q = l.length := by rw [← unhide HL]; omega
        subst e
        exact ((unhide hN).absurd (unhide HD)).elim
  | succ k ih =>
    intro g w hk hs hd
    have HS := hide hs
    have HL := hide hs.1
    have HD := hide hd
    have HG := hide hG
    have IH := hide ih
    obtain ⟨i0, hi, hz0, hz1, hz2⟩ := info_parts info_str
    have e11 : ((k + 1 : Nat) : Int) + 1 = (k : Int) + 1 + 1 := by omega
    rw [e11]
    have ek : ((k : Int) + 1 + 1 == 1) = false := by simp; omega
    have ej : IntKind.i64.wrap ((k : Int) + 1 + 1 - 1) = (k : Int) + 1 := by rw [IntKind.wrap_i64]; omega
    clear e11
    clear hs hd ih hG
    go_enter Try.func71, Try.ntmps71
    go_wp2_with fail
    go_loopw [13] (fun i wr => ∃ q : Nat, q ≤ len ∧ i = .int .i64 q ∧ Hid (NoneW l g m (k + 1) q) ∧ Hid (Below w.heap.size w wr)) (fun i _ => len - (Go.RowKit.intOf i).toNat)
    case atStart => exact ⟨0, Nat.zero_le _, rfl, hide (fun j h h1 => absurd h1 (Nat.not_lt_zero _)), hide (Below.refl _ _)⟩
    case round =>
      obtain ⟨q, hq, rfl, hN, hB⟩ := hrel
      by_cases hlt : q < len
      · have hq' : q < l.length := by rw [← unhide HL]; exact hlt
        obtain ⟨b, off, ea, hrow⟩ := ((unhide HS).keep (unhide hB)).at hlt
        have c0 := hrow.c0 q hq'
        have c1 := hrow.c1 q hq'
        have zk := hrow.z
        have eS := hide (fun h => (unhide hN).step hq' h)
        have eL := hide (fun h0 h1 => (unhide hN).least (unhide HG) hq' h0 h1)
        obtain ⟨W2, hW2⟩ : ∃ W2, W2 = wr.alloc (.cells #[.string (l[q]).f0, .string (l[q]).f1] 42) := ⟨_, rfl⟩
        have R2 := hide (show RowIs W2 wr.heap.size #[.string (l[q]).f0, .string (l[q]).f1] 42 by rw [hW2]; exact RowIs.new _ _ _)
        have B2 := hide (show Below w.heap.size w W2 by rw [hW2]; exact bAl (unhide hB) _)
        have HW2 := hide hW2.symm
        have qw := hide (l5Within_any a len cap l (l[q]).f1 m k W2 h200 ((unhide HS).keep (unhide B2)) (by omega))
        clear hrow hW2
        generalize l[q] = A at c0 c1 eS eL HW2 R2 qw
        subst ea
        by_cases e0 : A.f0 = g
        · have h0 : (ByteArray.toList A.f0 == ByteArray.toList g) = true := by rw [e0]; exact str_eq g
          replace e0 := hide e0
          go_wp2_with fail
          rw [unhide HW2]
          refine (unhide qw).mono ?_
          rintro e w3 ⟨⟨v, rfl, hv⟩, hb3⟩
          have HV := hide hv
          have B3 := hide (bTr (unhide B2) hb3)
          have R3 := hide ((unhide R2).keep hb3)
          clear hv hb3 qw R2 HW2
          cases v
          · have N2 := hide (unhide eS (fun _ h => by
              rcases at_flip.1 h with ⟨h1, _⟩ | ⟨_, h1⟩
              · omega
              · have := (unhide HV).2 h1; cases this))
            clear eS eL e0 HV
            go_wp2_with fail
            exact ⟨⟨q + 1, by omega, by go_num, N2, B3⟩, by simp [Go.RowKit.intOf]; omega⟩
          · have hd1 := (unhide HV).1 rfl
            have LS := hide (unhide eL (unhide e0) hd1)
            obtain ⟨W4, hW4⟩ : ∃ W4, W4 = w3.alloc (.cells #[.string g] 9) := ⟨_, rfl⟩
            have O4 := hide (show W4.ownsRow w3.heap.size 9 1 (.slice (some ⟨w3.heap.size, 0, none⟩) 1 1) [g].length ([g].map Value.string) by rw [hW4]; exact own_lit1 w3 g)
            have B4 := hide (show Below w.heap.size w W4 by rw [hW4]; exact bAl (unhide B3) _)
            have y1 := (unhide R3).at (o := 1) (v := .string A.f1) rfl
            have zy := (unhide R3).lt
            have HW4 := hide hW4.symm
            have qr := hide (unhide IH A.f1 W4 (by omega) ((unhide HS).keep (unhide B4)) hd1)
            clear eS eL e0 HV hd1 hW4
            go_wp2_with fail
            rw [unhide HW4]
            refine (unhide qr).mono ?_
            rintro e w5 ⟨⟨v, p, rfl, hp, ho⟩, hb5⟩
            have hpl := hp.len
            obtain ⟨gp, cp, ep, _⟩ := own_some ho (by omega)
            subst ep
            have HP := hide hp
            have O5 := hide (own_base (own_keep (unhide O4) hb5) (show w.heap.size ≤ w3.heap.size from (unhide B3).size))
            have HO := hide ho
            have B5 := hide (bTr (unhide B4) hb5)
            have hpb : p.length ≤ 1000 := by omega
            clear hp ho hb5 qr HW4 hpl
            go_wp2_with (at_builtin; refine wpList_append_own_at _ rfl _ _ 45 rfl w.heap.size 9 i0 _ 1 16 Try.underlying45 hi hz0 hz1 hz2 rfl (by decide) _ _ _ rfl (unhide O5) ⟨gp, 0, none⟩ p.length cp (p.map Value.string) rfl (by simp) ((unhide HO).cells (g := gp) rfl) (fun x hx => by obtain ⟨y, _, rfl⟩ := List.mem_map.1 hx; rfl) (by unfold maxLen; simp; omega) (by simp; omega) (unhide B5).size ?_; intro v6 w6 hown6 hgrow6 _ _; have O6 := hide hown6; have B6 := hide ((unhide B5).grown hgrow6 (unhide B5).size (fun j hj => ((unhide O5).lt j hj).1)); clear hown6 hgrow6)
            go_ret
            refine ⟨⟨_, g :: p, rfl, ⟨A.f1, p, unhide LS, unhide HP, rfl⟩, ?_⟩, unhide B6⟩
            have := unhide O6
            simpa [Nat.add_comm] using this
        · have h0 : (ByteArray.toList A.f0 == ByteArray.toList g) = false := str_ne e0
          have N2 := hide (unhide eS (fun h => absurd h e0))
          clear eS eL e0 qw
          go_wp2_with fail
          rw [unhide HW2]
          exact ⟨⟨q + 1, by omega, by go_num, N2, B2⟩, by simp [Go.RowKit.intOf]; omega⟩
      · have e : q = l.length := by rw [← unhide HL]; omega
        subst e
        exact ((unhide hN).absurd (unhide HD)).elim

set_option maxRecDepth 100000 in
set_option maxHeartbeats 1500000 in
theorem sWayOf_any (a : Option Addr) (len cap : Nat) (l : List NestT) (g m : Bs) (w : World) (hl : len ≤ maxLen) (hs : SlNest w a len l) (hok : ∀ q ∈ l, NestT.Ok q) (_h1 : g.size ≤ 1048576) (_h2 : m.size ≤ 1048576) :
    Calls Try.prog 38 #[.slice a len cap, .string g, .string m] w fun e w' => (∃ v p, e = .returned v ∧ PWay l g m p ∧ w'.ownsRow w.heap.size 9 1 v p.length (p.map Value.string)) ∧ Below w.heap.size w w' := by
  have HS := hide hs
  have HL := hide hs.1
  have qg := hide (sGoodNests_any a len cap l w hl hs hok)
  clear hs hok
  unfold maxLen at hl
  go_enter Try.func38, Try.ntmps38
  go_wp2_with fail
  refine (unhide qg).mono ?_
  rintro e w1 ⟨⟨gd, rfl, hgd⟩, hb1⟩
  have HG := hide hgd
  have B1 := hide hb1
  clear hgd hb1 qg
  cases gd
  · have FIN := hide (show PWay l g m [] from ⟨by simp, .inr ⟨(fun h => by
      have := (unhide HG).2 h.first.1
      cases this), rfl⟩⟩)
    clear HG
    go_wp2_with fail
    go_ret
    exact ⟨⟨_, [], rfl, unhide FIN, World.ownsRow_nil _ _ _ _⟩, unhide B1⟩
  · have GD := hide ((unhide HG).1 rfl)
    have h200 : len ≤ 200 := by rw [unhide HL]; exact (unhide GD).1
    have qr := hide (l5Rings_any a len cap l g w1 h200 ((unhide HS).keep (unhide B1)))
    clear HG
    go_wp2_with fail
    refine (unhide qr).mono ?_
    rintro e w3 ⟨⟨vR, R, sl, rfl, hR, hP⟩, hb3⟩
    obtain ⟨_, aR, capR, rfl⟩ := own_slLen hR.row
    have HP := hide hP
    have hRc := hP.cnt
    have HRl := hide (show ∀ k (h : k < R.length), (R[k]).length ≤ 200 from fun k h => Nat.le_trans (ring_len h) hP.len)
    have R3 := hide hR
    have B3 := hide (bTr (unhide B1) hb3)
    obtain ⟨base, hbase⟩ : ∃ b, b = w1.heap.size := ⟨_, rfl⟩
    rw [← hbase] at R3
    clear hR hP hb3 qr B1 hbase
    go_wp2_with fail
    go_loopw [16] (fun i wx => ∃ k : Nat, k ≤ R.length ∧ i = .int .i64 k ∧ Hid (∀ j (h : j < R.length), j < k → ¬ m ∈ R[j]) ∧ Hid (RgAt wx base (.slice aR R.length capR) R sl) ∧ Hid (Below w.heap.size w wx)) (fun i _ => R.length - (Go.RowKit.intOf i).toNat)
    case atStart => exact ⟨0, Nat.zero_le _, rfl, hide (fun j h h1 => absurd h1 (Nat.not_lt_zero _)), R3, B3⟩
    case round =>
      clear R3 B3
      obtain ⟨k, hk, rfl, hN, hR, hB⟩ := hrel
      by_cases hlt : k < R.length
      · obtain ⟨u, hu1, hu2⟩ := (unhide hR).each k hlt
        obtain ⟨gR, cR, eR, _⟩ := own_some (unhide hR).row (by omega)
        cases eR
        have c1 : wr.cell? ⟨gR, k, none⟩ = some u := by rw [(unhide hR).row.cellAt k (by omega)]; exact hu1
        have zR : gR < wr.heap.size := ((unhide hR).row.lt gR rfl).2
        obtain ⟨au, cu, eu, hsu⟩ := own_strs hu2
        subst eu
        have hrl := unhide HRl k hlt
        have qh := hide (l3Has_any au (R[k]).length cu R[k] m wr (by omega) hsu)
        have eD := hide ((unhide HP).at_ k hlt m)
        have eN : Hid (¬ m ∈ R[k] → ∀ j (h : j < R.length), j < k + 1 → ¬ m ∈ R[j]) := hide (fun h j hj h1 => by
          by_cases e : j = k
          · subst e; exact h
          · exact unhide hN j hj (by omega))
        clear hsu hu1 hu2
        generalize R[k] = RK at qh eD eN c1 hrl
        go_wp2_with fail
        refine (unhide qh).mono ?_
        rintro e w4 ⟨⟨v, rfl, hv⟩, hw4⟩
        subst hw4
        have HV := hide hv
        clear hv qh
        cases v
        · have N2 := hide (unhide eN (fun h => by have := (unhide HV).2 h; cases this))
          clear HV eN eD
          go_wp2_with fail
          exact ⟨⟨k + 1, by omega, by go_num, N2, hR, hB⟩, by simp [Go.RowKit.intOf]; omega⟩
        · have hd := (unhide eD).1 ((unhide HV).1 rfl)
          have HD := hide hd
          have qw := hide (l5Way_any a len cap l m (unhide GD) h200 k g wr (by omega) ((unhide HS).keep (unhide hB)) hd)
          clear HV eN eD hd hN
          go_wp2_with fail
          refine (unhide qw).mono ?_
          rintro e w5 ⟨⟨v, p, rfl, hp, ho⟩, hb5⟩
          have FIN := hide (show PWay l g m p ∧ w5.ownsRow w.heap.size 9 1 v p.length (p.map Value.string) from ⟨⟨by rw [hp.len]; omega, .inl ⟨k, (dist_congr (edG_iff (unhide GD))).2 (unhide HD), hp.congr (fun x y => (edG_iff (unhide GD) x y).symm)⟩⟩, own_base ho (unhide hB).size⟩)
          have B5 := hide (bTr (unhide hB) hb5)
          clear hp ho hb5 qw
          go_wp2_with fail
          go_ret
          exact ⟨⟨v, p, rfl, unhide FIN⟩, unhide B5⟩
      · have FIN := hide (show PWay l g m [] from ⟨by simp, .inr ⟨(fun h => by
          obtain ⟨j, hj, hm⟩ := ((unhide HP).inn (unhide GD) m).1 h
          exact unhide hN j hj (by omega) hm), rfl⟩⟩)
        clear hN hR
        go_wp2_with fail
        go_ret
        exact ⟨⟨_, [], rfl, unhide FIN, World.ownsRow_nil _ _ _ _⟩, unhide hB⟩
end Go.Proofs.Ytakjnbdjjeccoaa
