/- GChg, GRng, one behind the other. -/
import Derived.Test.YtakjnbdjjeccoaaJ21
import Derived.Test.YtakjnbdjjeccoaaJ19
/- impl.AddNest, impl.DropNest. -/
namespace Go.Proofs.Ytakjnbdjjeccoaa
open Go.RowKit Go.Maps

/-- The list's nests and n; those without n. -/
def AddS (l : List NestT) (n : Bs × Bs) : Bs × Bs → Prop := fun p => SetL l p ∨ p = n
def DropS (l : List NestT) (n : Bs × Bs) : Bs × Bs → Prop := fun p => SetL l p ∧ p ≠ n
/-- What AddNest and DropNest tell. -/
def PChg (l : List NestT) (n : Bs × Bs) (T : Bs × Bs → Prop) (r1 : List NestT) (r2 : List ReachT) : Prop := ((GoodL l ∧ gNest n.1 n.2 = true) ∧ TN T r1 ∧ PRea r1 r2) ∨ (¬ (GoodL l ∧ gNest n.1 n.2 = true) ∧ r1 = [] ∧ r2 = [])
theorem PChg.uniq {l : List NestT} {n : Bs × Bs} {T : Bs × Bs → Prop} {r1 s1 : List NestT} {r2 s2 : List ReachT} (h : PChg l n T r1 r2) (k : PChg l n T s1 s2) : r1 = s1 ∧ r2 = s2 := by
  rcases h with ⟨h0, h1, h2⟩ | ⟨h0, h1, h2⟩ <;> rcases k with ⟨k0, k1, k2⟩ | ⟨k0, k1, k2⟩
  · obtain rfl := h1.uniq k1
    exact ⟨rfl, h2.uniq k2⟩
  · exact absurd h0 k0
  · exact absurd k0 h0
  · exact ⟨by rw [h1, k1], by rw [h2, k2]⟩
theorem PChg.len {l : List NestT} {n : Bs × Bs} {T : Bs × Bs → Prop} {r1 : List NestT} {r2 : List ReachT} (h : PChg l n T r1 r2) : r1.length ≤ 40000 ∧ r2.length ≤ 40000 := by
  rcases h with ⟨h0, h1, h2⟩ | ⟨h0, h1, h2⟩
  · exact ⟨by have := h1.len; omega, h2.len⟩
  · rw [h1, h2]; simp
theorem gNest_ok {g m : Bs} (h : gNest g m = true) : okKN (g, m) := by
  unfold gNest isGrp at h
  simp only [Bool.and_eq_true] at h
  have h1 := goodName_le h.1.1
  have h2 := goodName_le h.2
  exact ⟨show g.size ≤ maxLen by unfold maxLen; omega, show m.size ≤ maxLen by unfold maxLen; omega⟩
theorem setL_ok {l : List NestT} (hG : GoodL l) {p : Bs × Bs} (h : SetL l p) : okKN p := by
  obtain ⟨x, hx, rfl⟩ := h
  obtain ⟨i, hi, rfl⟩ := List.getElem_of_mem hx
  exact gNest_ok (hG.2.1 i hi hi)
theorem TN.ok {S : Bs × Bs → Prop} {r : List NestT} (h : TN S r) (hS : ∀ p, S p → okKN p) : ∀ q ∈ r, NestT.Ok q := fun q hq => by
  rcases h with ⟨h1, _⟩ | ⟨_, _, h1⟩
  · rw [h1] at hq; simp at hq
  · have := hS _ ((h1 q).1 hq)
    exact ⟨this.1, this.2⟩
theorem seM_del (S : Bs × Bs → Prop) (x : Bs × Bs) : (fun p => if p = x then none else seM S p) = seM (fun p => S p ∧ p ≠ x) := by
  funext p
  unfold seM
  by_cases h : p = x
  · rw [if_pos h, if_neg (fun q => q.2 h)]
  · rw [if_neg h]
    by_cases k : S p
    · rw [if_pos k, if_pos ⟨k, h⟩]
    · rw [if_neg k, if_neg (fun q => k q.1)]
/-- 'delete(m, x)'. -/
theorem wpList_del_km {P : Program} {k : TypeId} {α : Type} [DecidableEq α] {enc : α → Value} {ok : α → Prop} (w : World) {ops : Array Oper} {rest : List Oper} {o : Oper} {a : Act} {Q : Exit → Act → World → Prop} (K : KeyKind P k enc ok) (hg : o.guard = none) (m x : Operand) (t : TypeId) (hop : o.op = Op.call { callee := Callee.builtin Builtin.delete, args := #[m, x], argTypes := #[t, k] }) (e : TypeId) (ht : P.underlying t = some (.map k e)) (b n : Nat) (M : α → Option Value) (hm : a.eval m = .map (some b)) (hk : KM P k enc w b n M) (y : α) (hx : a.eval x = enc y) (hy : ok y)
    (hK : ∀ w', KM P k enc w' b n (fun z => if z = y then none else M z) → w.grownBy w' (some b) → wpList P ops Q rest (a.put o.dst (.tuple #[])) w') : wpList P ops Q (o :: rest) a w := by
  obtain ⟨D, hown, hD⟩ := hk
  obtain ⟨kl, hkl⟩ := K.key y hy
  refine wpList_delete_own w hg m x t k hop e K.law ht hvR b n D hm hown (enc y) kl hx hkl ?_
  intro w' h1 h2
  refine hK w' ⟨_, h1, fun y' kl' hk' => ?_⟩ h2.grown
  by_cases e : y' = y
  · subst e
    obtain rfl : kl' = kl := by rw [hkl] at hk'; exact (Option.some.inj hk').symm
    simp only [if_true]
    exact ⟨Maps.has_del_same, fun c hc => by cases hc⟩
  · have hne : kl' ≠ kl := fun e2 => e (K.inj _ _ (K.law.inj hk' (by rw [e2]; exact hkl)))
    simp only [if_neg e]
    rw [Maps.has_del_other hne]
    refine ⟨(hD y' kl' hk').1, fun c' hc' z => ?_⟩
    rw [Maps.atKey_del_other hne]
    exact (hD y' kl' hk').2 c' hc' z
end Go.Proofs.Ytakjnbdjjeccoaa
/- spec.l5Rings. -/
namespace Go.Proofs.Ytakjnbdjjeccoaa
open Go.RowKit

set_option maxRecDepth 100000 in
set_option maxHeartbeats 2000000 in
theorem l5Rings_any (a : Option Addr) (len cap : Nat) (l : List NestT) (s : Bs) (w : World) (hl : len ≤ 200) (hs : SlNest w a len l) :
    Calls Try.prog 63 #[.slice a len cap, .string s] w fun e w' => (∃ v R sl, e = .returned v ∧ RgAt w' w.heap.size v R sl ∧ RingP (EdR l) s R) ∧ Below w.heap.size w w' := by
  obtain ⟨E, hE⟩ : ∃ E : Bs → Bs → Prop, E = EdR l := ⟨_, rfl⟩
  have EE := hide (show ∀ x y, E x y ↔ EdR l x y by rw [hE]; exact fun _ _ => Iff.rfl)
  rw [← hE]
  clear hE
  obtain ⟨ms, hms⟩ : ∃ ms : List Bs, ms = l.map (fun p => p.f1) := ⟨_, rfl⟩
  have hml : ms.length ≤ 200 := by rw [hms, List.length_map, ← hs.1]; exact hl
  have ME := hide (show ∀ i (h : i < l.length), l[i].f1 ∈ ms from fun i h => by rw [hms]; exact List.mem_map.2 ⟨_, List.getElem_mem h, rfl⟩)
  clear hms
  obtain ⟨i0, hi, hz0, hz1, hz2⟩ := info_parts info_str
  obtain ⟨i5, hi5, hy0, hy1, hy2⟩ := info_parts info_strs
  obtain ⟨W, hW⟩ : ∃ W, W = w.alloc (.cells #[.string s] 9) := ⟨_, rfl⟩
  have RW0 := hide (show RW w W (.slice none 0 0) [] [] (.slice none 0 0) [] (.slice (some ⟨w.heap.size, 0, none⟩) 1 1) [s] (.slice none 0 0) [] from ⟨⟨World.ownsRow_nil _ _ _ _, fun k h => absurd h (by simp)⟩, World.ownsRow_nil _ _ _ _, by rw [hW]; exact World.ownsRow_lit w #[.string s] 1 (by omega) (by unfold maxLen; omega) rfl, World.ownsRow_nil _ _ _ _, dj_nil _, dj_nil _, dj_nil _, (fun u h => by simp at h), by rw [hW]; exact bAl (Below.refl _ _) _⟩)
  have HW := hide hW.symm
  have HS := hide hs
  have HL := hide hs.1
  clear hs hW
  go_enter Try.func63, Try.ntmps63
  go_wp2_with fail
  rw [unhide HW]
  clear HW
  go_loopw [5, 6, 7] (fun v5 v6 v7 wr => ∃ (k : Nat) (L : Bs → Option Nat) (F ks : List Bs) (R : List (List Bs)) (sl : List Value), Hid (RW w wr v5 R sl v6 ks v7 F (.slice none 0 0) []) ∧ Hid (BA E ms s k L F ks) ∧ Hid (RS E s k F ks R)) (fun v5 _ v7 _ => if slLen v7 = 0 then 0 else 1000 - slLen v5)
  case atStart => exact ⟨0, _, [s], [], [], [], RW0, hide (BA.start E ms s), hide ⟨fun _ => rfl, (fun e => by simp at e), (fun i h => absurd h (by simp)), rfl, Nat.le_refl _, (fun i h => absurd h (by simp))⟩⟩
  case round =>
    clear RW0
    obtain ⟨k, L, F, ks, R, sl, hR, hA, hP⟩ := hrel
    have hks := (unhide hA).le
    obtain ⟨hsl7, a7, cap7, rfl⟩ := own_slLen (unhide hR).no
    have HSL5 := hide (own_slLen (unhide hR).rg.row).1
    clear hsl7
    by_cases hlen : F.length = 0
    · have eF : F = [] := List.length_eq_zero_iff.1 hlen
      subst eF
      have FIN := hide (show (RgAt wr w.heap.size u5 R sl ∧ RingP E s R) ∧ Below w.heap.size w wr from ⟨⟨(unhide hR).rg, (unhide hP).fin (unhide hA) hml⟩, (unhide hR).below⟩)
      clear hR hA hP HSL5
      go_wp2_with fail
      go_ret
      exact ⟨⟨_, R, sl, rfl, (unhide FIN).1⟩, (unhide FIN).2⟩
    · have hFne : F ≠ [] := fun e => hlen (by rw [e]; rfl)
      have hk1 : k ≤ ks.length := (unhide hA).many hFne
      have hFL : F.length ≤ 1000 := by have := (unhide hA).flen; omega
      have FR := hide (unhide hA).bfs.front
      have hpos : 0 < F.length := by omega
      have hpd : decide (0 < F.length) = true := decide_eq_true hpos
      have S0 := hide (unhide hA).enter'
      have HP := hP
      obtain ⟨c0, hc0⟩ : ∃ c, c = ks.length := ⟨_, rfl⟩
      have HC2 := hide (show k ≤ c0 ∧ c0 ≤ 200 by omega)
      rw [← hc0] at S0
      obtain ⟨ks0, hks0⟩ : ∃ x, x = ks := ⟨_, rfl⟩
      rw [← hks0] at HP
      have HKC := hide (show ks0.length = c0 by rw [hks0, hc0])
      clear hA hP hc0 hk1 hks hks0
      go_wp2_with fail
      go_loopw [6, 8, 20] (fun v6 v8 i wr => ∃ (j : Nat) (L : Bs → Option Nat) (N ks : List Bs), j ≤ F.length ∧ i = .int .i64 j ∧ Hid (RW w wr u5 R sl v6 ks (.slice a7 F.length cap7) F v8 N) ∧ Hid (BS E ms s k L N (Pf E F j) ks c0)) (fun _ _ i _ => F.length - (Go.RowKit.intOf i).toNat)
      case atStart => exact ⟨0, L, [], ks, Nat.zero_le _, rfl, hR, S0⟩
      case round =>
        clear hR S0
        obtain ⟨j, L, N, ks, hj, rfl, hR, hQ⟩ := hrel
        by_cases hlt : j < F.length
        · obtain ⟨a1', cap1', e1, hsl⟩ := own_strs (unhide hR).no
          cases e1
          obtain ⟨bF, off, rfl, hrow⟩ := hsl.at (k := j) hlt
          have c0' := hrow.c j hlt
          have zF := hrow.z
          have HC := hide ((unhide FR F[j]).1 (List.getElem_mem hlt))
          have eT := hide (show ∀ x, x ∈ F.take (j + 1) ↔ x ∈ F.take j ∨ x = F[j] from fun x => by rw [List.take_succ_eq_append_getElem hlt, List.mem_append, List.mem_singleton])
          clear hrow hsl
          generalize F[j] = c at c0' HC eT
          have Q0 := hide (show BS E ms s k L N (Pj E l F j 0 c) ks c0 from (unhide hQ).sub (fun x y h => h.elim id (fun h => by obtain ⟨_, _, _, h, _⟩ := h; omega)))
          clear hQ
          go_wp2_with fail
          go_loopw [6, 8, 26] (fun v6 v8 i wr => ∃ (m : Nat) (L : Bs → Option Nat) (N ks : List Bs), m ≤ len ∧ i = .int .i64 m ∧ Hid (RW w wr u5 R sl v6 ks (.slice (some ⟨bF, off, none⟩) F.length cap7) F v8 N) ∧ Hid (BS E ms s k L N (Pj E l F j m c) ks c0)) (fun _ _ i _ => len - (Go.RowKit.intOf i).toNat)
          case atStart => exact ⟨0, L, N, ks, Nat.zero_le _, rfl, hR, Q0⟩
          case round =>
            clear hR Q0 c0'
            obtain ⟨m, L, N, ks, hm, rfl, hR, hQ⟩ := hrel
            have hks := (unhide hQ).le
            have hNl : N.length ≤ ks.length := by have := (unhide hQ).len; omega
            by_cases hlt2 : m < len
            · have hm' : m < l.length := by rw [← unhide HL]; exact hlt2
              obtain ⟨b, off2, ea, hrow⟩ := ((unhide HS).keep (unhide hR).below).at hlt2
              have d0 := hrow.c0 m hm'
              have d1 := hrow.c1 m hm'
              have zk := hrow.z
              have HE := hide (show E (l[m]).f0 (l[m]).f1 from (unhide EE _ _).2 ⟨m, hm', rfl, rfl⟩)
              have HM := hide (unhide ME m hm')
              have P3 := hide (Pj.step (E := E) (F := F) (j := j) (c := c) hm')
              subst ea
              obtain ⟨W2, hW2⟩ : ∃ W2, W2 = wr.alloc (.cells #[.string (l[m]).f0, .string (l[m]).f1] 42) := ⟨_, rfl⟩
              have R2 := hide (show RowIs W2 wr.heap.size #[.string (l[m]).f0, .string (l[m]).f1] 42 by rw [hW2]; exact RowIs.new _ _ _)
              have HW2 := hide hW2.symm
              have R3 := hide ((unhide hR).same (show wr.grownBy W2 none by rw [hW2]; exact World.grownBy_alloc _ _ _))
              clear hrow hR hW2
              generalize l[m] = A at d0 d1 HE HM P3 HW2 R2
              by_cases hc : A.f0 = c
              · have P4 := hide (fun x z h => (unhide P3 x z h).imp_right (fun (q : x = A.f0 ∧ x = c ∧ z = A.f1) => And.intro q.2.1 q.2.2))
                have EC := hide (show E c A.f1 by rw [← hc]; exact unhide HE)
                have heq : (ByteArray.toList A.f0 == ByteArray.toList c) = true := by rw [hc]; exact str_eq c
                obtain ⟨a6, cap6, e6, hs6⟩ := own_strs (unhide R3).se
                subst e6
                have qh := hide (l3Has_any a6 ks.length cap6 ks A.f1 W2 (by omega) hs6)
                clear hs6 P3 hc HE
                go_wp2_with fail
                rw [unhide HW2]
                refine (unhide qh).mono ?_
                rintro e w4 ⟨⟨v, rfl, hv⟩, hw4⟩
                subst hw4
                have HV := hide hv
                clear hv qh
                cases v
                · have Q4 := hide ((unhide hQ).take' c A.f1 (unhide HC) (unhide EC) (unhide HM) (by
                    cases hx : L A.f1 with
                    | none => rfl
                    | some z =>
                      have := (unhide HV).2 (((unhide hQ).keys A.f1).2 (by rw [hx]; rfl))
                      cases this) (unhide P4))
                  have x1 := (unhide R2).at (o := 1) (v := .string A.f1) rfl
                  have zx := (unhide R2).lt
                  have FX := hide (fun (v5 : Value) (w5 : World) (h1 : w5.ownsRow w.heap.size 9 1 v5 (ks.length + 1) (ks.map Value.string ++ [.string A.f1])) (h2 : (W2.alloc (.cells #[.string A.f1] 9)).grownBy w5 (Value.slice a6 ks.length cap6).ownBlock) (h3 : v5.ownBlock = (Value.slice a6 ks.length cap6).ownBlock ∨ v5.ownBlock = some (W2.alloc (.cells #[.string A.f1] 9)).heap.size) => And.intro ((unhide R3).seen h1 h2 h3) (row_not (unhide R2) (unhide R3).se (by decide) h2))
                  clear HV hQ P4 EC
                  go_wp2_with (first
                    | (at_builtin; refine wpList_append_own_at _ rfl _ _ 45 rfl w.heap.size 9 i0 _ 1 16 Try.underlying45 hi hz0 hz1 hz2 rfl (by decide) _ _ _ rfl ((unhide R3).se.alloc _) ⟨_, 0, none⟩ 1 1 [.string A.f1] rfl rfl (cell_one_at _ _ rfl _ _) (fun x hx => by simp at hx; subst hx; rfl) (by unfold maxLen; omega) (by omega) (by have := (unhide R3).below.size; simp; omega) ?_; intro v5 w5 hown5 hgrow5 _ hat5; obtain ⟨k5, k6⟩ := unhide FX _ _ hown5 hgrow5 hat5; have R5 := hide k5; have y1 := k6.at (o := 1) (v := .string A.f1) rfl; have zy := k6.lt; clear hown5 hgrow5 hat5 k5 k6)
                    | (at_builtin; refine wpList_append_own_at _ rfl _ _ 45 rfl w.heap.size 9 i0 _ 1 16 Try.underlying45 hi hz0 hz1 hz2 rfl (by decide) _ _ _ rfl ((unhide R5).ne.alloc _) ⟨_, 0, none⟩ 1 1 [.string A.f1] rfl rfl (cell_one_at _ _ rfl _ _) (fun x hx => by simp at hx; subst hx; rfl) (by unfold maxLen; omega) (by omega) (by have := (unhide R5).below.size; simp; omega) ?_; intro v6 w6 hown6 hgrow6 _ hat6; have R6 := hide ((unhide R5).next hown6 hgrow6 hat6); clear hown6 hgrow6 hat6))
                  exact ⟨⟨m + 1, _, N ++ [A.f1], ks ++ [A.f1], by omega, by go_num, R6, Q4⟩, by simp [Go.RowKit.intOf]; omega⟩
                · have Q4 := hide ((unhide hQ).skip c A.f1 (((unhide hQ).keys A.f1).1 ((unhide HV).1 rfl)) (unhide P4))
                  clear HV hQ
                  go_wp2_with fail
                  exact ⟨⟨m + 1, L, N, ks, by omega, by go_num, R3, Q4⟩, by simp [Go.RowKit.intOf]; omega⟩
              · have hne := str_ne hc
                have Q4 := hide (show BS E ms s k L N (Pj E l F j (m + 1) c) ks c0 from (unhide hQ).sub (fun x y h => by
                  rcases unhide P3 x y h with h | ⟨h1, h2, _⟩
                  · exact h
                  · exact absurd (h1.symm.trans h2) hc))
                clear hc hQ P3
                go_wp2_with fail
                rw [unhide HW2]
                exact ⟨⟨m + 1, L, N, ks, by omega, by go_num, R3, Q4⟩, by simp [Go.RowKit.intOf]; omega⟩
            · have em : m = l.length := by rw [← unhide HL]; omega
              subst em
              have Q4 := hide (show BS E ms s k L N (Pf E F (j + 1)) ks c0 from (unhide hQ).sub (fun x y h => by
                rcases (unhide eT x).1 h.1 with h1 | rfl
                · exact .inl ⟨h1, h.2⟩
                · obtain ⟨i, hi, h1, h2⟩ := (unhide EE x y).1 h.2
                  exact .inr ⟨rfl, i, hi, hi, h1, h2⟩))
              clear hQ eT
              go_wp2_with fail
              exact ⟨⟨j + 1, L, N, ks, by omega, by go_num, hR, Q4⟩, by simp [Go.RowKit.intOf]; omega⟩
        · have ej : j = F.length := by omega
          subst ej
          have A2 := hide ((unhide hQ).leave (unhide FR) (fun c b h1 h2 => ⟨by rw [List.take_length]; exact h1, h2⟩) (unhide HC2).1)
          have NL := hide (unhide hQ).len
          have hks2 := (unhide A2).le
          have hcnt := hide (unhide HP).cnt
          obtain ⟨hsl8, a8, cap8, rfl⟩ := own_slLen (unhide hR).ne
          have HNl : N.length ≤ 200 := by have := unhide NL; omega
          clear hQ hsl8
          by_cases hN : N = []
          · subst hN
            have P2 := hide (show RS E s (k + 1) [] ks R from (unhide HP).none hFne (by have h1 := unhide NL; have h2 := unhide HKC; simp at h1; omega))
            have R2 := hide (unhide hR).turn
            have hcl : R.length ≤ 200 := by have h2 := unhide hcnt; have h3 := unhide HKC; have h4 := unhide HC2; omega
            clear hR HP NL
            go_wp2_with fail
            refine ⟨⟨k + 1, L, [], ks, R, sl, R2, A2, P2⟩, ?_⟩
            have e3 : slLen (Value.slice a7 F.length cap7) = F.length := rfl
            rw [e3, if_neg hlen, unhide HSL5]
            simp [slLen]
            omega
          · have hNp : 0 < N.length := List.length_pos_iff.2 hN
            have hNd : decide (0 < N.length) = true := decide_eq_true hNp
            have P2 := hide (show RS E s (k + 1) N ks (R ++ [N]) from (unhide HP).more hFne hN (unhide A2).bfs.front (by have h1 := unhide NL; have h2 := unhide HKC; omega))
            have hcl : R.length ≤ 200 := by have h2 := unhide hcnt; have h3 := unhide HKC; have h4 := unhide HC2; omega
            clear HP NL
            go_wp2_with (at_builtin; refine wpList_append_own_at _ rfl _ _ 82 rfl w.heap.size 45 i5 _ 1 24 Try.underlying82 hi5 hy0 hy1 hy2 rfl (by decide) _ _ _ rfl ((unhide hR).rg.row.alloc _) ⟨_, 0, none⟩ 1 1 [.slice a8 N.length cap8] rfl rfl (cell_one_at _ _ rfl _ _) (fun x hx => by simp at hx; subst hx; rfl) (by unfold maxLen; omega) (by omega) (by have := (unhide hR).below.size; simp; omega) ?_; intro v9 w9 hown9 hgrow9 _ _; have R9 := hide ((unhide hR).rings hown9 hgrow9); clear hown9 hgrow9)
            refine ⟨⟨k + 1, L, N, ks, R ++ [N], sl ++ [.slice a8 N.length cap8], R9, A2, P2⟩, ?_⟩
            have e3 : slLen (Value.slice a7 F.length cap7) = F.length := rfl
            have e4 : slLen (Value.slice a8 N.length cap8) = N.length := rfl
            have e5 := (own_slLen (unhide R9).rg.row).1
            rw [e3, if_neg hlen, unhide HSL5, e4, if_neg (by omega), e5, List.length_append]
            simp
            omega
end Go.Proofs.Ytakjnbdjjeccoaa
