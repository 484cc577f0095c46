/- RunRecovery by the program: the walk. -/
import Derived.Test.YtjmpakpodhbbpaaKWh
import Derived.Laws.AppendOwn
namespace Go.Proofs.Ytjmpakpodhbbpaa
set_option linter.unusedSimpArgs false
set_option linter.unusedVariables false
set_option maxRecDepth 20000
open Go.RowKit Go.Maps


theorem cellNewR (w : World) (v : Value) (T : TypeId) {b : Nat} (hb : w.heap.size = b) : ∀ j u, ([v] : List Value)[j]? = some u → (w.alloc (.cells #[v] T)).cell? ((⟨b, 0, none⟩ : Addr).add j) = some u := by
  subst hb
  intro j u hj
  cases j with
  | zero =>
    simp at hj
    subst hj
    exact (RowIs.new w #[v] T).at rfl
  | succ j => simp at hj
theorem info_intR : (Try.prog.info? 3).map (fun i => (i.zero, i.size, i.bytes)) = some (some (.int .i64 0), 1, 8) := by kernel_rfl
set_option maxHeartbeats 4000000 in
theorem iRunRecovery_y (need delay : Int) (h : V.Hd) (H : List ByteArray) (a : Option Addr) (len cap : Nat) (l : List RecoverEventT) (w : World) (hhl : H.length ≤ maxLen) (hho : ∀ q ∈ H, ByteArray.size q ≤ maxLen) (hhs : V.SqS w 0 h H) (hl : len ≤ maxLen) (hs : SlRecoverEvent w a len l) (hok : ∀ q ∈ l, RecoverEventT.Ok q) :
    Calls Try.prog 5 #[.int .i64 need, .int .i64 delay, .slice h.a h.len h.cap, .slice a len cap] w fun e w' => (∃ v r, e = .returned v ∧ RecIs need delay H l r ∧ w'.ownsRow w.heap.size 3 1 v r.length (r.map intV)) ∧ Below w.heap.size w w' := by
  unfold maxLen at hl
  obtain ⟨i0, hi, hz⟩ := Option.map_eq_some_iff.1 info_intR
  simp only [Prod.mk.injEq] at hz
  obtain ⟨hz0, hz1, hz2⟩ := hz
  have q1 := hide (between_e 1 need 10)
  have q2 := hide (between_e 0 delay 100000000000)
  have q3 := hide (goodHelpers_any h H w hhl hho hhs)
  have HS := hide hs
  have HO := hide hok
  have HH := hide hhs
  have HI := hide (And.intro hi (And.intro hz0 (And.intro hz1 hz2)))
  have LL := hide hs.1
  have EN := hide (fun (g : ¬ GoodR need delay H l.length) => show RecIs need delay H l [] from ⟨fun y => absurd y g, fun _ => rfl⟩)
  have EY := hide (fun (g : GoodR need delay H l.length) r (e : r = runR ⟨need, delay, H, 0, false, 0, [], none, 0, 0⟩ l) => show RecIs need delay H l r from ⟨fun _ => e, fun n => absurd g n⟩)
  have GG : Hid (GoodR need delay H l.length ↔ (1 ≤ need ∧ need ≤ 10) ∧ (0 ≤ delay ∧ delay ≤ 100000000000) ∧ GHelp H ∧ l.length ≤ 200) := hide Iff.rfl
  clear hs hok hhs hhl hho hi hz0 hz1 hz2
  by_cases g1 : 1 ≤ need ∧ need ≤ 10
  rotate_left
  · rw [decide_eq_false g1] at q1
    have N := hide (unhide EN (fun k => g1 ((unhide GG).1 k).1))
    clear g1
    go_enter Try.func5, Try.ntmps5
    go_wp2_with (go_at_call 13; (with_reducible refine (unhide q1 _).mono ?_); rintro e w1 ⟨rfl, rfl⟩)
    go_ret
    exact ⟨⟨_, [], rfl, unhide N, World.ownsRow_nil _ _ _ _⟩, Below.refl _ _⟩
  rw [decide_eq_true g1] at q1
  have G1 := hide g1
  clear g1
  by_cases g2 : 0 ≤ delay ∧ delay ≤ 100000000000
  rotate_left
  · rw [decide_eq_false g2] at q2
    have N := hide (unhide EN (fun k => g2 ((unhide GG).1 k).2.1))
    clear g2
    go_enter Try.func5, Try.ntmps5
    go_wp2_with (go_at_call 13; (first | (with_reducible refine (unhide q1 _).mono ?_) | (with_reducible refine (unhide q2 _).mono ?_)); rintro e w1 ⟨rfl, rfl⟩)
    go_ret
    exact ⟨⟨_, [], rfl, unhide N, World.ownsRow_nil _ _ _ _⟩, Below.refl _ _⟩
  rw [decide_eq_true g2] at q2
  have G2 := hide g2
  clear g2
  go_enter Try.func5, Try.ntmps5
  go_wp2_with (go_at_call 13; (first | (with_reducible refine (unhide q1 _).mono ?_) | (with_reducible refine (unhide q2 _).mono ?_)); rintro e w1 ⟨rfl, rfl⟩)
  refine (unhide q3).mono ?_
  rintro e w1 ⟨⟨v, rfl, hv⟩, hb1⟩
  have HV := hide hv
  have B1 := hide hb1
  clear hv hb1 q1 q2 q3
  cases v
  · have N := hide (unhide EN (fun k => absurd ((unhide HV).2 ((unhide GG).1 k).2.2.1) (by simp)))
    go_wp2_with fail
    go_ret
    exact ⟨⟨_, [], rfl, unhide N, World.ownsRow_nil _ _ _ _⟩, unhide B1⟩
  by_cases g3 : 200 < len
  · have N := hide (unhide EN (fun k => by have h1 := ((unhide GG).1 k).2.2.2; have h2 := unhide LL; omega))
    go_wp2_with fail
    go_ret
    exact ⟨⟨_, [], rfl, unhide N, World.ownsRow_nil _ _ _ _⟩, unhide B1⟩
  have Y := hide (unhide EY ((unhide GG).2 ⟨unhide G1, unhide G2, (unhide HV).1 (by trivial), by have := unhide LL; omega⟩))
  have HV10 := hide ((unhide HV).1 (by trivial)).1.1
  clear EN EY GG HV
  have l200 : len ≤ 200 := by omega
  have T0 : Hid (RSt w1 l ⟨need, delay, H, 0, false, 0, [], h.a, h.len, h.cap⟩ 0 (.slice none 0 0) (w1.alloc (.cells #[.int .i64 need, .int .i64 delay, .slice h.a h.len h.cap, .int .i64 0, .bool false, .int .i64 0, .map none] 47)) ⟨need, delay, H, 0, false, 0, [], h.a, h.len, h.cap⟩ [] none) :=
    hide ⟨⟨RowIs.new _ _ _, ((unhide HH).sl.keep (unhide B1)).keep (bAl (Below.refl _ _) _), (fun g off e => by
        rcases (unhide HH).sl.2 with h0 | ⟨g', off', e', r⟩
        · exact .inl h0
        · have e2 : h.a = some ⟨g, off, none⟩ := e
          rw [e2] at e'; cases e'; exact .inr (Nat.lt_of_lt_of_le r.z (unhide B1).size)), (show h.len ≤ 10 by have h1 := (unhide HH).1; have h2 := (unhide HV10); omega), (fun s hs => by simp at hs), (fun _ => ⟨rfl, rfl⟩), fun mb e => by cases e⟩, World.ownsRow_nil _ _ _ _, by simp, rfl, bAl (Below.refl _ _) _, (fun mb e => by cases e), Nat.le_refl _, rfl⟩
  go_wp2_with fail
  go_loopw [10, 38] (fun v i w' => ∃ (k : Nat) (x : RcT) (r : List Int) (m : Option Nat), k ≤ len ∧ i = .int .i64 k ∧ Hid (RSt w1 l ⟨need, delay, H, 0, false, 0, [], h.a, h.len, h.cap⟩ k v w' x r m)) (fun _ i _ => len - (intOf i).toNat)
  case atStart => exact ⟨0, _, [], none, Nat.zero_le _, rfl, T0⟩
  case round =>
    obtain ⟨k, x, r, m, hk, rfl, hT⟩ := hrel
    clear T0
    by_cases hlt : k < len
    · obtain ⟨g, off, rfl, hrow⟩ := (((unhide HS).keep (unhide B1)).keep (unhide hT).bel).at hlt
      have hk' : k < l.length := by rw [← unhide LL]; exact hlt
      have c0 := hrow.c0 k hk'
      have c1 := hrow.c1 k hk'
      have c2 := hrow.c2 k hk'
      have hzb := hrow.z
      have hN := hide (runR_next (x := x) hk' rfl)
      have OK := hide (unhide HO _ (List.getElem_mem hk'))
      clear hrow
      generalize l[k] = A at *
      obtain ⟨W2, hW2⟩ : ∃ W, W = wr.alloc (.cells #[.int .i64 A.f0, .int .i64 A.f1, .string A.f2] 31) := ⟨_, rfl⟩
      have b2 : Below wr.heap.size wr W2 := by rw [hW2]; exact bAl (Below.refl _ _) _
      have R2 := show RowIs W2 wr.heap.size #[.int .i64 A.f0, .int .i64 A.f1, .string A.f2] 31 by rw [hW2]; exact RowIs.new _ _ _
      have S2 := hide ((unhide hT).keep b2)
      have q := hide (outcome_any A.f0 A.f1 A.f2 W2 (unhide S2).at' (unhide OK).o2 (by rw [(unhide hT).del]; exact unhide G2) (by have := (unhide hT).vot; omega))
      have e0 := R2.at (o := 0) (v := .int .i64 A.f0) rfl
      have e1 := R2.at (o := 1) (v := .int .i64 A.f1) rfl
      have e2 := R2.at (o := 2) (v := .string A.f2) rfl
      have ez := R2.lt
      have HW2 := hide hW2.symm
      have LR := hide (unhide hT).len
      have MORE := hide (fun u w2 w3 w4 hd hb hown hg => (unhide S2).more (u := u) (w2 := w2) (w3 := w3) (w4 := w4) (unhide hN) hd hb hown hg)
      have MID := hide (fun X w2 hd => (unhide S2).mid (X := X) (w2 := w2) hd)
      have BW := hide (unhide S2).at'.box.lt
      generalize rcFault x A.f0 A.f1 A.f2 = F at *
      generalize rcNext x A.f0 A.f1 A.f2 = X at *
      clear b2 R2 hW2 hT hN
      go_upto_region 8 with fail
      rw [unhide HW2]
      clear c0 c1 c2 hzb HW2
      go_wp2_with fail
      refine (unhide q).mono ?_
      rintro e w3 ⟨rfl, hd⟩
      have HD3 := hide hd
      have O3 := hide (unhide MID X w3 hd)
      have Z3 := hide hd.2.size
      clear hd q e0 e1 e2 ez
      obtain ⟨W4, hW4⟩ : ∃ W, W = w3.alloc (.cells #[.int .i64 F] 3) := ⟨_, rfl⟩
      have B4 := hide (show Below w3.heap.size w3 W4 by rw [hW4]; exact bAl (Below.refl _ _) _)
      have CN : ∀ j u, ([intV F] : List Value)[j]? = some u → W4.cell? ((⟨w3.heap.size, 0, none⟩ : Addr).add j) = some u := by rw [hW4]; exact cellNewR w3 _ 3 rfl
      have O4 := hide (own_blk (w' := W4) (unhide O3) (fun g hg => (unhide B4).block g ((unhide O3).lt g hg).2))
      have Z4 := hide (show W4.heap.size = w3.heap.size + 1 by rw [hW4]; simp)
      have HW4 := hide hW4.symm
      clear hW4
      go_wp2_with (at_builtin; rw [unhide HW4]; (refine wpList_append_own _ rfl _ _ 27 rfl (w1.heap.size + 1) 3 i0 (.int .i64 0) 1 8 Try.underlying27 (unhide HI).1 (unhide HI).2.1 (unhide HI).2.2.1 (unhide HI).2.2.2 rfl (by decide) _ _ _ rfl (unhide O4) ⟨w3.heap.size, 0, none⟩ 1 1 [intV F] rfl rfl CN (fun x hx => by simp at hx; subst hx; rfl) (by unfold maxLen; have := unhide LR; omega) (by have := unhide LR; omega) (by have := unhide Z4; have := unhide Z3; have := unhide BW; omega) ?_); intro v' w5 hown hgrow _)
      obtain ⟨m', hm'⟩ := unhide MORE v' w3 W4 w5 (unhide HD3) (unhide B4) hown hgrow
      exact ⟨⟨k + 1, X, r ++ [F], m', by omega, by go_num, hide hm'⟩, by simp [intOf]; omega⟩
    · go_wp2_with fail
      go_ret
      have e : k = l.length := by have := unhide LL; omega
      have hr := (unhide hT).run
      rw [e, List.drop_length] at hr
      exact ⟨⟨_, r, rfl, unhide Y r (by rw [show r = r ++ runR x [] by simp [runR], ← hr]; exact runR_ad l ⟨need, delay, H, 0, false, 0, [], none, 0, 0⟩ h.a h.len h.cap), own_lo (unhide hT).own (by have := (unhide B1).size; omega)⟩, bTr (unhide B1) (unhide hT).bel⟩
end Go.Proofs.Ytjmpakpodhbbpaa
