/- RunRecovery by the specification: the walk. -/
import Derived.Test.YtjmpakpodhbbpaaKWn
import Derived.Laws.AppendOwn
namespace Go.Proofs.Ytjmpakpodhbbpaa
set_option linter.unusedSimpArgs false
set_option linter.unusedVariables false
set_option maxRecDepth 20000
open Go.RowKit Go.Maps


set_option maxHeartbeats 4000000 in
theorem sRunRecovery_y (need delay : Int) (h : V.Hd) (H : List ByteArray) (a : Option Addr) (len cap : Nat) (l : List RecoverEventT) (w : World) (hhl : H.length ≤ maxLen) (hho : ∀ q ∈ H, ByteArray.size q ≤ maxLen) (hhs : V.SqS w 0 h H) (hl : len ≤ maxLen) (hs : SlRecoverEvent w a len l) :
    Calls Try.prog 7 #[.int .i64 need, .int .i64 delay, .slice h.a h.len h.cap, .slice a len cap] w fun e w' => (∃ v r, e = .returned v ∧ RecIs need delay H l r ∧ w'.ownsRow w.heap.size 3 1 v r.length (r.map intV)) ∧ Below w.heap.size w w' := by
  unfold maxLen at hl
  have hzz : h.len ≤ 9223372036854775807 := by have h1 := hhs.1; unfold maxLen at hhl; omega
  obtain ⟨i0, hi, hz⟩ := Option.map_eq_some_iff.1 info_intR
  simp only [Prod.mk.injEq] at hz
  obtain ⟨hz0, hz1, hz2⟩ := hz
  have q3 := hide (V.l3Rising_n h H w hhl hho hhs)
  have HS := hide hs
  have HH := hide hhs
  have HHO := hide hho
  have HI := hide (And.intro hi (And.intro hz0 (And.intro hz1 hz2)))
  have LL := hide hs.1
  have LH := hide hhs.1
  have EN := hide (fun (g : ¬ GoodR need delay H l.length) => show RecIs need delay H l [] from ⟨fun y => absurd y g, fun _ => rfl⟩)
  have EY := hide (fun (g : GoodR need delay H l.length) r (e : r = runR ⟨need, delay, H, 0, false, 0, [], none, 0, 0⟩ l) => show RecIs need delay H l r from ⟨fun _ => e, fun n => absurd g n⟩)
  have GG : Hid (GoodR need delay H l.length ↔ (1 ≤ need ∧ need ≤ 10) ∧ (0 ≤ delay ∧ delay ≤ 100000000000) ∧ (((H.length : Int) ≤ 10 ∧ ∀ x ∈ H, goodName x = true) ∧ ∀ i (h : i + 1 < H.length), V.cmpT H[i].data.toList H[i + 1].data.toList < 0) ∧ l.length ≤ 200) := hide Iff.rfl
  clear hs hhs hhl hho hi hz0 hz1 hz2
  by_cases g1 : need < 1
  · have N := hide (unhide EN (fun k => by have := ((unhide GG).1 k).1; omega))
    go_enter Try.func7, Try.ntmps7
    go_wp2_with fail
    go_ret
    first | exact ⟨⟨_, [], rfl, unhide N, World.ownsRow_nil _ _ _ _⟩, Below.refl _ _⟩ | exact ⟨⟨_, rfl, [], unhide N, World.ownsRow_nil _ _ _ _⟩, Below.refl _ _⟩
  by_cases g2 : 10 < need
  · have N := hide (unhide EN (fun k => by have := ((unhide GG).1 k).1; omega))
    go_enter Try.func7, Try.ntmps7
    go_wp2_with fail
    go_ret
    first | exact ⟨⟨_, [], rfl, unhide N, World.ownsRow_nil _ _ _ _⟩, Below.refl _ _⟩ | exact ⟨⟨_, rfl, [], unhide N, World.ownsRow_nil _ _ _ _⟩, Below.refl _ _⟩
  by_cases g3 : delay < 0
  · have N := hide (unhide EN (fun k => by have := ((unhide GG).1 k).2.1; omega))
    go_enter Try.func7, Try.ntmps7
    go_wp2_with fail
    go_ret
    first | exact ⟨⟨_, [], rfl, unhide N, World.ownsRow_nil _ _ _ _⟩, Below.refl _ _⟩ | exact ⟨⟨_, rfl, [], unhide N, World.ownsRow_nil _ _ _ _⟩, Below.refl _ _⟩
  by_cases g4 : 100000000000 < delay
  · have N := hide (unhide EN (fun k => by have := ((unhide GG).1 k).2.1; omega))
    go_enter Try.func7, Try.ntmps7
    go_wp2_with fail
    go_ret
    first | exact ⟨⟨_, [], rfl, unhide N, World.ownsRow_nil _ _ _ _⟩, Below.refl _ _⟩ | exact ⟨⟨_, rfl, [], unhide N, World.ownsRow_nil _ _ _ _⟩, Below.refl _ _⟩
  by_cases g5 : 10 < h.len
  · have N := hide (unhide EN (fun k => by have h1 := ((unhide GG).1 k).2.2.1.1.1; have h2 := unhide LH; omega))
    go_enter Try.func7, Try.ntmps7
    go_wp2_with fail
    go_ret
    first | exact ⟨⟨_, [], rfl, unhide N, World.ownsRow_nil _ _ _ _⟩, Below.refl _ _⟩ | exact ⟨⟨_, rfl, [], unhide N, World.ownsRow_nil _ _ _ _⟩, Below.refl _ _⟩
  have G2 := hide (show 0 ≤ delay ∧ delay ≤ 100000000000 by omega)
  have G1 := hide (show 1 ≤ need ∧ need ≤ 10 by omega)
  have l10 : h.len ≤ 10 := by omega
  go_enter Try.func7, Try.ntmps7
  go_wp2_with fail
  refine (unhide q3).mono ?_
  rintro e w1 ⟨⟨v, rfl, hv⟩, hb1⟩
  have HV := hide hv
  have B1 := hide hb1
  clear hv hb1 q3
  cases v
  · have N := hide (unhide EN (fun k => absurd ((unhide HV).2 ((unhide GG).1 k).2.2.1.2) (by simp)))
    go_wp2_with fail
    go_ret
    first | exact ⟨⟨_, [], rfl, unhide N, World.ownsRow_nil _ _ _ _⟩, unhide B1⟩ | exact ⟨⟨_, rfl, [], unhide N, World.ownsRow_nil _ _ _ _⟩, unhide B1⟩
  by_cases g6 : 200 < len
  · have N := hide (unhide EN (fun k => by have h1 := ((unhide GG).1 k).2.2.2; have h2 := unhide LL; omega))
    go_wp2_with fail
    go_ret
    first | exact ⟨⟨_, [], rfl, unhide N, World.ownsRow_nil _ _ _ _⟩, unhide B1⟩ | exact ⟨⟨_, rfl, [], unhide N, World.ownsRow_nil _ _ _ _⟩, unhide B1⟩
  have RIS := hide ((unhide HV).1 (by trivial))
  have l200 : len ≤ 200 := by omega
  clear HV g1 g2 g3 g4 g5 g6 hl hzz
  go_wp2_with fail
  go_loopw [46] (fun i w' => ∃ k : Nat, k ≤ h.len ∧ i = .int .i64 k ∧ Hid (∀ j (hj : j < H.length), j < k → goodName H[j] = true) ∧ Hid (Below w1.heap.size w1 w')) (fun i _ => h.len - (intOf i).toNat)
  case atStart => exact ⟨0, Nat.zero_le _, rfl, hide (fun j hj hk => by omega), hide (Below.refl _ _)⟩
  case round =>
    obtain ⟨k, hk, rfl, hg, hb⟩ := hrel
    by_cases hlt : k < h.len
    · have hk' : k < H.length := by have := unhide LH; omega
      obtain ⟨g, off, e0, hrow⟩ := (((unhide HH).sl.keep (unhide B1)).keep (unhide hb)).at hlt
      have c0 := hrow.c k hk'
      have zk := hrow.z
      rw [e0]
      have qn := hide (sGoodName_any H[k] (unhide HHO _ (List.getElem_mem hk')) wr)
      have NG := hide (fun (g : goodName H[k] = false) => unhide EN (fun kk => by have := ((unhide GG).1 kk).2.2.1.1.2 _ (List.getElem_mem hk'); rw [g] at this; cases this))
      have YG := hide (fun (g : goodName H[k] = true) => show ∀ j (hj : j < H.length), j < k + 1 → goodName H[j] = true from fun j hj hjk => by
        rcases Nat.lt_or_ge j k with h1 | h1
        · exact unhide hg j hj h1
        · obtain rfl : j = k := by omega
          exact g)
      clear hrow
      generalize H[k] = A at *
      generalize goodName A = GA at *
      go_wp2_with fail
      refine (unhide qn).mono ?_
      rintro e w2 ⟨rfl, hb2⟩
      have B2 := hide (show Below w1.heap.size w1 w2 from by first | exact bTr (unhide hb) hb2 | (subst hb2; exact unhide hb))
      clear hb2 qn c0 zk
      cases GA
      · go_wp2_with fail
        go_ret
        first | exact ⟨⟨_, [], rfl, unhide NG (by trivial), World.ownsRow_nil _ _ _ _⟩, bTr (unhide B1) (unhide B2)⟩ | exact ⟨⟨_, rfl, [], unhide NG (by trivial), World.ownsRow_nil _ _ _ _⟩, bTr (unhide B1) (unhide B2)⟩
      · go_wp2_with fail
        exact ⟨⟨k + 1, by omega, by go_num, hide (unhide YG (by trivial)), B2⟩, by simp [intOf]; omega⟩
    · have Y := hide (unhide EY ((unhide GG).2 ⟨unhide G1, unhide G2, ⟨⟨by have := unhide LH; omega, fun x hx => by
          obtain ⟨j, hj, rfl⟩ := List.mem_iff_getElem.1 hx
          exact unhide hg j hj (by have := unhide LH; omega)⟩, unhide RIS⟩, by have := unhide LL; omega⟩))
      have BA := hide (bTr (unhide B1) (unhide hb))
      clear EN EY GG hg RIS hb B1
      obtain ⟨WA, hWA⟩ : ∃ W : World, W = wr := ⟨_, rfl⟩
      subst hWA
      have T0 : Hid (SSt WA l ⟨need, delay, H, 0, false, 0, [], h.a, h.len, h.cap⟩ 0 (.slice none 0 0) (WA.alloc (.cells #[.int .i64 0, .bool false, .int .i64 0, .slice none 0 0] 52)) ⟨need, delay, H, 0, false, 0, [], h.a, h.len, h.cap⟩ [] (.slice none 0 0)) :=
        hide ⟨⟨RowIs.new _ _ _, World.ownsRow_nil _ _ _ _⟩, World.ownsRow_nil _ _ _ _, by simp, rfl, bAl (Below.refl _ _) _, Nat.le_refl _, rfl, rfl, rfl⟩
      go_wp2_with fail
      go_loopw [12, 58] (fun v i w' => ∃ (k : Nat) (x : RcT) (r : List Int) (u : Value), k ≤ len ∧ i = .int .i64 k ∧ Hid (SSt WA l ⟨need, delay, H, 0, false, 0, [], h.a, h.len, h.cap⟩ k v w' x r u)) (fun _ i _ => len - (intOf i).toNat)
      case atStart => exact ⟨0, _, [], _, Nat.zero_le _, rfl, T0⟩
      case round =>
        obtain ⟨k, x, r, u, hk, rfl, hT⟩ := hrel
        clear T0
        by_cases hlt : k < len
        · obtain ⟨g, off, rfl, hrow⟩ := (((unhide HS).keep (unhide BA)).keep (unhide hT).bel).at hlt
          have hk' : k < l.length := by rw [← unhide LL]; exact hlt
          have c0 := hrow.c0 k hk'
          have c1 := hrow.c1 k hk'
          have c2 := hrow.c2 k hk'
          have hzb := hrow.z
          have hN := hide (runR_next (x := x) hk' rfl)
          clear hrow
          generalize l[k] = A at *
          obtain ⟨W2, hW2⟩ : ∃ W, W = wr.alloc (.cells #[.int .i64 A.f0, .int .i64 A.f1, .string A.f2] 31) := ⟨_, rfl⟩
          have b2 : Below wr.heap.size wr W2 := by rw [hW2]; exact bAl (Below.refl _ _) _
          have R2 := show RowIs W2 wr.heap.size #[.int .i64 A.f0, .int .i64 A.f1, .string A.f2] 31 by rw [hW2]; exact RowIs.new _ _ _
          have S2 := hide ((unhide hT).keep b2)
          have q := hide (sdo_any A.f0 A.f1 A.f2 h.a h.len h.cap W2 (unhide S2).at' (by rw [(unhide hT).hlp]; exact ((unhide HH).sl.keep (unhide BA)).keep (unhide S2).bel) l10 (by have := (unhide hT).vot; omega) (by rw [(unhide hT).del]; exact unhide G2))
          unfold SdoIs at q
          have ND := hide (show x.need = need ∧ x.delay = delay from ⟨(unhide hT).nd, (unhide hT).del⟩)
          rw [(unhide ND).1, (unhide ND).2] at q
          have e0 := R2.at (o := 0) (v := .int .i64 A.f0) rfl
          have e1 := R2.at (o := 1) (v := .int .i64 A.f1) rfl
          have e2 := R2.at (o := 2) (v := .string A.f2) rfl
          have ez := R2.lt
          have HW2 := hide hW2.symm
          have LR := hide (unhide hT).len
          have MORE := hide (fun u w2 w3 w4 hd hb hown hg => (unhide S2).more (v' := u) (w2 := w2) (w3 := w3) (w4 := w4) (unhide hN) hd hb hown hg)
          have MID := hide (fun X w2 hd => (unhide S2).mid (X := X) (w2 := w2) hd)
          have BW := hide (unhide S2).at'.box.lt
          generalize rcFault x A.f0 A.f1 A.f2 = F at *
          generalize rcNext x A.f0 A.f1 A.f2 = X at *
          clear b2 R2 hW2 hT hN
          go_upto_region 14 with fail
          rw [unhide HW2]
          clear c0 c1 c2 hzb HW2
          go_wp2_with fail
          refine (unhide q).mono ?_
          rintro e w3 ⟨rfl, hd⟩
          have HD3 := hide hd
          have O3 := hide (unhide MID X w3 hd)
          have Z3 := hide hd.2.size
          clear hd q e0 e1 e2 ez
          obtain ⟨W4, hW4⟩ : ∃ W, W = w3.alloc (.cells #[.int .i64 F] 3) := ⟨_, rfl⟩
          have B4 := hide (show Below w3.heap.size w3 W4 by rw [hW4]; exact bAl (Below.refl _ _) _)
          have CN : ∀ j u, ([intV F] : List Value)[j]? = some u → W4.cell? ((⟨w3.heap.size, 0, none⟩ : Addr).add j) = some u := by rw [hW4]; exact cellNewR w3 _ 3 rfl
          have O4 := hide (own_blk (w' := W4) (unhide O3) (fun g hg => (unhide B4).block g ((unhide O3).lt g hg).2))
          have Z4 := hide (show W4.heap.size = w3.heap.size + 1 by rw [hW4]; simp)
          have HW4 := hide hW4.symm
          clear hW4
          go_wp2_with (at_builtin; rw [unhide HW4]; (refine wpList_append_own _ rfl _ _ 27 rfl (WA.heap.size + 1) 3 i0 (.int .i64 0) 1 8 Try.underlying27 (unhide HI).1 (unhide HI).2.1 (unhide HI).2.2.1 (unhide HI).2.2.2 rfl (by decide) _ _ _ rfl (unhide O4) ⟨w3.heap.size, 0, none⟩ 1 1 [intV F] rfl rfl CN (fun x hx => by simp at hx; subst hx; rfl) (by unfold maxLen; have := unhide LR; omega) (by have := unhide LR; omega) (by have := unhide Z4; have := unhide Z3; have := unhide BW; omega) ?_); intro v' w5 hown hgrow _)
          obtain ⟨u', hu'⟩ := unhide MORE v' w3 W4 w5 (unhide HD3) (unhide B4) hown hgrow
          exact ⟨⟨k + 1, X, r ++ [F], u', by omega, by go_num, hide hu'⟩, by simp [intOf]; omega⟩
        · go_wp2_with fail
          go_ret
          have e : k = l.length := by have := unhide LL; omega
          have hr := (unhide hT).run
          rw [e, List.drop_length] at hr
          have YY := unhide Y r (by rw [show r = r ++ runR x [] by simp [runR], ← hr]; exact runR_ad l ⟨need, delay, H, 0, false, 0, [], none, 0, 0⟩ h.a h.len h.cap)
          have OO := own_lo (base' := w.heap.size) (unhide hT).own (by have := (unhide BA).size; omega)
          first
            | exact ⟨⟨_, r, rfl, YY, OO⟩, bTr (unhide BA) (unhide hT).bel⟩
            | exact ⟨⟨_, rfl, r, YY, OO⟩, bTr (unhide BA) (unhide hT).bel⟩
end Go.Proofs.Ytjmpakpodhbbpaa
