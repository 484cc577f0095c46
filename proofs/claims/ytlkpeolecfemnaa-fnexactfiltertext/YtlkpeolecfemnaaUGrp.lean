/- impl.growFilter, filterOf, GoodFilter. -/
import Derived.Test.YtlkpeolecfemnaaUGro
import Derived.Deep.Cut
namespace Go.Proofs.Ytlkpeolecfemnaa.V
open Go.RowKit Go.Maps

def GrowEnd (w w' : World) (B r : Nat) (l : List FilterNodeT) (e : Ending) : Prop :=
  (growT r l = none ∧ ∃ v1 v2, e = .returned (.tuple #[v1, v2, .bool false])) ∨
  ∃ t l' T u a' cap', growT r l = some (t, l') ∧ e = .returned (.tuple #[.iface T u, .slice a' l'.length cap', .bool true]) ∧ SlFilterNode w' a' l'.length l' ∧ l'.length ≤ cap' ∧ l'.length ≤ l.length ∧ (∀ q ∈ l', FilterNodeT.Ok q) ∧ FilAt w' w.heap.size r t (.iface T u) ∧ InB B a' l'
theorem make_trees (n : Nat) (w : World) (h : n ≤ 100) : ∃ w1 C, (Instr.makeSlice 52 (.int .i64 (n : Int)) (.int .i64 (n : Int))).run Try.prog w = .ok (.slice (some ⟨w.heap.size, 0, none⟩) n n) w1 ∧
    Below w.heap.size w w1 ∧ RowIs w1 w.heap.size C 41 ∧ C.size = n := by
  have hi : (Try.prog.info? 41).map (fun i => (i.zero, i.size, i.bytes)) = some (some .nilIface, 1, 16) := by kernel_rfl
  obtain ⟨i, h1, h2⟩ := Option.map_eq_some_iff.1 hi
  simp only [Prod.mk.injEq] at h2
  obtain ⟨hz, hsz, hby⟩ := h2
  have hr := run_make (P := Try.prog) w 52 41 i _ Try.underlying52 h1 hz .i64 .i64 (n : Int) (n : Int) (by omega) (by omega) (by rw [hby]; omega) (by omega)
  rw [Int.toNat_natCast, hsz, Nat.mul_one] at hr
  exact ⟨_, _, hr, bAl (Below.refl _ _) _, RowIs.new _ _ _, size_madeCells _ _⟩
theorem grow_node {r : Nat} {x : FilterNodeT} {l : List FilterNodeT} (hn : NodeP x) {pre : List FT} {l' : List FilterNodeT} (h : takeK (growT r) x.f3.toNat l = some (pre, l')) : growT (r + 1) (x :: l) = some (.node x pre, l') := by
  simp only [growT]
  rw [if_pos hn, h]; rfl
theorem grow_no1 {r : Nat} {x : FilterNodeT} {l : List FilterNodeT} (hn : NodeP x) (h : takeK (growT r) x.f3.toNat l = none) : growT (r + 1) (x :: l) = none := by
  simp only [growT]
  rw [if_pos hn, h]; rfl
theorem grow_no0 {r : Nat} {x : FilterNodeT} {l : List FilterNodeT} (hn : ¬ NodeP x) : growT (r + 1) (x :: l) = none := by
  simp only [growT]
  rw [if_neg hn]
/-- The kids so far: their values lie in the first cells, and are their trees. -/
structure KidV (w : World) (kb r n : Nat) (pre : List FT) (vs : List Value) : Prop where
  l1 : vs.length = pre.length
  row : ∃ C, RowIs w kb C 41 ∧ C.size = n ∧ ∀ i (h : i < vs.length), C[i]? = some vs[i]
  at_ : ∀ i (h : i < pre.length) (h' : i < vs.length), FilAt w (kb + 1) r pre[i] vs[i]
theorem KidV.keep {w w1 : World} {kb r n : Nat} {pre : List FT} {vs : List Value} (h : KidV w kb r n pre vs) (hb : Below w.heap.size w w1) : KidV w1 kb r n pre vs :=
  ⟨h.l1, h.row.imp fun _ ⟨r, s, f⟩ => ⟨r.keep hb, s, f⟩, fun i hi hi' => (h.at_ i hi hi').fr (Fu.below hb _)⟩
theorem KidV.snoc {w : World} {kb r n : Nat} {pre : List FT} {vs : List Value} {t : FT} {v : Value} (h : KidV w kb r n pre vs) (hk : vs.length < n) (hv : FilAt w (kb + 1) r t v) : KidV (w.setCell ⟨kb, vs.length, none⟩ v) kb r n (pre ++ [t]) (vs ++ [v]) := by
  refine ⟨by simp [h.l1], ?_, fun i hi hi' => ?_⟩
  · obtain ⟨C, r, s, f⟩ := h.row
    refine ⟨_, r.set vs.length v, by rw [Array.size_setIfInBounds]; exact s, fun i hi => ?_⟩
    rw [Array.getElem?_setIfInBounds]
    by_cases e : vs.length = i
    · subst e
      rw [if_pos rfl, if_pos (by omega)]; simp
    · rw [if_neg e, f i (by simp at hi; omega), List.getElem_append_left (by simp at hi; omega)]
  · have fu : Fu (kb + 1) w (w.setCell ⟨kb, vs.length, none⟩ v) := Fu.set w v (Nat.lt_succ_self _)
    by_cases e : i < pre.length
    · rw [List.getElem_append_left e, List.getElem_append_left (by rw [h.l1]; exact e)]
      exact (h.at_ i e _).fr fu
    · simp at hi
      obtain rfl : i = pre.length := by omega
      rw [List.getElem_append_right (Nat.le_refl _), List.getElem_append_right (by rw [h.l1]; exact Nat.le_refl _)]
      simpa [h.l1] using hv.fr fu

set_option maxRecDepth 20000 in
set_option maxHeartbeats 2000000 in
theorem growFilter_any (B : Nat) : ∀ (r : Nat) (a : Option Addr) (len cap : Nat) (l : List FilterNodeT) (w : World), r ≤ 20 → len ≤ 1000 → len ≤ cap → SlFilterNode w a len l → (∀ q ∈ l, FilterNodeT.Ok q) → InB B a l → B ≤ w.heap.size →
    Calls Try.prog 19 #[.slice a len cap, .int .i64 r] w fun e w' => GrowEnd w w' B r l e ∧ Below w.heap.size w w'
  | r, a, len, cap, [], w, hr, hl, hc, hs, hok, hI, hB => by
    obtain rfl : len = 0 := hs.1
    have no : Hid (growT r [] = none) := hide (by cases r <;> rfl)
    clear hs hok hI hB
    go_enter Try.func19, Try.ntmps19
    go_wp2_with fail
    refine bodyPost_ret (v := .tuple #[.nilIface, .slice none 0 0, .bool false]) (by simp [results, Try.results19, go_sem]) rfl ⟨.inl ⟨unhide no, _, _, rfl⟩, Below.refl _ _⟩
  | 0, a, len, cap, x :: l, w, hr, hl, hc, hs, hok, hI, hB => by
    have hp : ¬ len = 0 := by rw [hs.1]; simp
    clear hs hok hI hB
    go_enter Try.func19, Try.ntmps19
    go_wp2_with fail
    refine bodyPost_ret (v := .tuple #[.nilIface, .slice none 0 0, .bool false]) (by simp [results, Try.results19, go_sem]) rfl ⟨.inl ⟨rfl, _, _, rfl⟩, Below.refl _ _⟩
  | r + 1, a, len, cap, x :: l, w, hr, hl, hc, hs, hok, hI, hB => by
    have ih := hide (growFilter_any B r)
    have HI := hide hI
    have HB := hide hB
    have hlen : len = l.length + 1 := hs.1
    have hp : ¬ len = 0 := by omega
    have hp1 : 1 ≤ len := by omega
    obtain ⟨b, off, rfl, hrow⟩ := hs.head
    have c0 := hrow.c0 0 (by simp)
    have c1 := hrow.c1 0 (by simp)
    have c2 := hrow.c2 0 (by simp)
    have c3 := hrow.c3 0 (by simp)
    simp only [List.getElem_cons_zero, Nat.zero_mul, Nat.add_zero] at c0 c1 c2 c3
    have dl : ((len : Int) == 0) = false := by simp; omega
    have dr : ((r : Int) + 1 == 0) = false := by simp; omega
    have HR := hide hrow
    have q1 := hide (fun w => goodFilterNode_any x w (hok x (by simp)))
    have HO := hide (fun q (h : q ∈ l) => hok q (by simp [h]))
    have HL := hide hlen
    have bB : b < B := by
      rcases hI with e | ⟨b', off', e, hlt⟩
      · cases e
      · simp at e; omega
    have HBB := hide bB
    clear hs hok hrow hlen hI hB bB
    go_enter Try.func19, Try.ntmps19
    go_wp2_with fail
    refine (unhide q1 _).mono ?_
    rintro e w1 ⟨⟨bn, rfl, hn⟩, hb1⟩
    clear q1 c0 c1 c2 c3
    replace HR := hide ((unhide HR).keep hb1)
    have B1 := hide hb1
    clear hb1
    cases bn with
    | false =>
      have no : Hid (growT (r + 1) (x :: l) = none) := hide (grow_no0 (fun h => by have := hn.2 h; cases this))
      clear hn
      go_wp2_with fail
      refine bodyPost_ret (v := .tuple #[.nilIface, .slice none 0 0, .bool false]) (by simp [results, Try.results19, go_sem]) rfl ⟨.inl ⟨unhide no, _, _, rfl⟩, unhide B1⟩
    | true =>
      have HN := hide (hn.1 rfl)
      clear hn
      go_upto_region 3 with fail
      go_cut [7] from 13 (fun s wx => s = .slice (if cap = 1 then some ⟨b, off, none⟩ else some ⟨b, off + 4, none⟩) (len - 1) (cap - 1) ∧ w1 = wx)
      case first =>
        by_cases hcap : cap = 1
        · go_wp2_with fail
          go_meet
          case rel => exact ⟨by simp [hcap], rfl⟩
        · go_wp2_with fail
          go_meet
          case rel => exact ⟨by simp [hcap], rfl⟩
      obtain ⟨hu7, rfl⟩ := hcut
      subst hu7
      have HK := hide (unhide HN).kids
      obtain ⟨n, hn6⟩ : ∃ n : Nat, x.f3 = (n : Int) := ⟨x.f3.toNat, by have := (unhide HK).1; omega⟩
      have hn10 : n ≤ 20 := by have := (unhide HK).2; omega
      have c3 := (unhide HR).c3 0 (by simp)
      simp only [List.getElem_cons_zero, Nat.zero_mul, Nat.add_zero] at c3
      rw [hn6] at c3
      have H6 := hide hn6
      have T6 : Hid (x.f3.toNat = n) := hide (by omega)
      obtain ⟨W2, C0, hrun, b2, hr2, hC2⟩ := make_trees n w1 (by omega)
      have KV0 : Hid (KidV W2 w1.heap.size r n [] []) := hide ⟨rfl, ⟨C0, hr2, hC2, fun i h => by simp at h⟩, fun i h => by simp at h⟩
      replace HR := hide ((unhide HR).keep b2)
      have B2 := hide (bTr (unhide B1) b2)
      have S2 : Hid (SlFilterNode W2 (if cap = 1 then some ⟨b, off, none⟩ else some ⟨b, off + 4, none⟩) (len - 1) l) := hide (by
        refine ⟨by have := unhide HL; omega, ?_⟩
        cases hl' : l with
        | nil => exact .inl rfl
        | cons y l1 =>
          right
          have e : ¬ cap = 1 := by have := unhide HL; rw [hl'] at this; simp at this; omega
          rw [if_neg e]
          rw [← hl']
          exact ⟨b, off + 4, rfl, (unhide HR).tail⟩)
      have I2 : Hid (InB B (if cap = 1 then some ⟨b, off, none⟩ else some ⟨b, off + 4, none⟩) l) := hide (by
        right
        split
        · exact ⟨_, _, rfl, unhide HBB⟩
        · exact ⟨_, _, rfl, unhide HBB⟩)
      have C2 : Hid (len - 1 ≤ cap - 1) := hide (by omega)
      have hn1 : len - 1 ≤ 1000 := by omega
      have zk : Hid (w1.heap.size < W2.heap.size) := hide (RowIs.lt hr2)
      have K0 : Hid (Below w1.heap.size w1 W2) := hide b2
      have Z1 : Hid (B ≤ w1.heap.size) := hide (Nat.le_trans (unhide HB) (unhide B1).size)
      obtain ⟨kb, hkb⟩ : ∃ kb, kb = w1.heap.size := ⟨_, rfl⟩
      rw [← hkb] at hrun KV0 zk Z1
      have HKB := hide hkb
      clear hr2 hC2 b2 HK hn6 hkb
      generalize (if cap = 1 then (some ⟨b, off, none⟩ : Option Addr) else some ⟨b, off + 4, none⟩) = A2 at *
      generalize cap - 1 = cap2 at *
      generalize len - 1 = len2 at *
      clear dl
      go_wp2_with fail
      clear hrun c3
      go_loopw [7, 36] (fun s7 i w' => ∃ (k : Nat) (pre : List FT) (l' : List FilterNodeT) (a' : Option Addr) (n' cap' : Nat) (vs : List Value), k ≤ n ∧ n' ≤ 1000 ∧ i = .int .i64 k ∧ s7 = .slice a' n' cap' ∧ Hid (SlFilterNode w' a' n' l') ∧ Hid (n' ≤ cap') ∧ Hid (∀ q ∈ l', FilterNodeT.Ok q) ∧ Hid (l'.length ≤ l.length) ∧ Hid (InB B a' l') ∧ Hid (vs.length = k) ∧ Hid (KidV w' kb r n pre vs) ∧ Hid (KidsTo (growT r) n l k pre l') ∧ Hid (Below w1.heap.size w1 w') ∧ Hid (FilterNodeRow w' b off (x :: l)) ∧ Hid (kb < w'.heap.size)) (fun _ i _ => n - (Go.RowKit.intOf i).toNat)
      case atStart => exact ⟨0, [], l, A2, len2, cap2, [], Nat.zero_le _, hn1, rfl, rfl, S2, C2, HO, hide (Nat.le_refl _), I2, hide rfl, KV0, hide (KidsTo.start _ _ _), K0, HR, zk⟩
      case round =>
        clear S2 I2 KV0 HR K0 zk
        obtain ⟨k, pre, l', a', n', cap', vs, hk, hn', rfl, rfl, hs', hc', ho', hll, hin, hvl, hkv, hkids, hb', hro, hzk⟩ := hrel
        by_cases hlt : k < n
        · have q := hide (fun w hs => unhide ih a' n' cap' l' w (by omega) hn' (unhide hc') hs (unhide ho') (unhide hin))
          have szr := hide (show B ≤ wr.heap.size from Nat.le_trans (unhide Z1) (Nat.le_of_lt (unhide hzk)))
          have i0 : (0 : Int) ≤ (k : Int) := by omega
          have i1 : (k : Int) < (n : Int) := by omega
          go_wp2_with fail
          refine (unhide q _ (unhide hs') (unhide szr)).mono ?_
          rintro e w3 ⟨(⟨hg, v1, v2, rfl⟩ | ⟨t, l2, T, u, a2, cap3, hg, rfl, hs2, hc2, hl2, hok2, htag, hin2⟩), hb3⟩
          · have no : Hid (growT (r + 1) (x :: l) = none) := hide (grow_no1 (unhide HN) (by rw [unhide T6]; exact (unhide hkids).no hlt hg))
            have B3 := hide ((unhide B1).trans (((unhide hb').trans (hb3.mono (unhide hb').size)).mono (unhide B1).size))
            clear hg hb3 q
            go_wp2_with fail
            refine bodyPost_ret (v := .tuple #[.nilIface, .slice none 0 0, .bool false]) (by simp [results, Try.results19, go_sem]) rfl ⟨.inl ⟨unhide no, _, _, rfl⟩, unhide B3⟩
          · have ks := hide ((unhide hkids).step hlt hg)
            have hl3 : l2.length ≤ 1000 := by have := (unhide hs').1; omega
            have hll3 : Hid (l2.length ≤ l.length) := hide (Nat.le_trans hl2 (unhide hll))
            have KV3 := hide ((unhide hkv).keep hb3)
            have vl := unhide hvl
            have KV4 := hide ((unhide KV3).snoc (t := t) (v := .iface T u) (by omega) (htag.lo (unhide hzk)))
            rw [vl] at KV4
            obtain ⟨C3, r3, s3, f3⟩ := (unhide KV3).row
            have fz := r3.froz k
            have cz := r3.cell k
            rw [Array.getElem?_eq_getElem (by omega)] at cz
            generalize C3[k]'(by omega) = D0 at cz
            have kz : Hid (kb < w3.heap.size) := hide (Nat.lt_of_lt_of_le (unhide hzk) hb3.size)
            have hB3 : B ≤ kb := unhide Z1
            have K4 : Hid (Below B w3 (w3.setCell ⟨kb, k, none⟩ (.iface T u))) := hide ((Below.refl B w3).setCell (p := ⟨kb, k, none⟩) hB3 _)
            have S4 := hide (hs2.keepB hin2 (unhide K4) (by have := unhide kz; simp [World.setCell]; omega))
            have B4 : Hid (Below w1.heap.size w1 (w3.setCell ⟨kb, k, none⟩ (.iface T u))) := hide (((unhide hb').trans (hb3.mono (unhide hb').size)).setCell (p := ⟨kb, k, none⟩) (by show w1.heap.size ≤ kb; rw [unhide HKB]; exact Nat.le_refl _) _)
            have R4 : Hid (FilterNodeRow (w3.setCell ⟨kb, k, none⟩ (.iface T u)) b off (x :: l)) := hide (by
              have h3 := (unhide hro).keep hb3
              have nb : kb ≠ b := by have := unhide HBB; omega
              exact ⟨by simpa [World.setCell] using h3.z, fun i hi => by rw [World.cell?_setCell_far _ _ _ _ nb]; exact h3.c0 i hi, fun i hi => by rw [World.cell?_setCell_far _ _ _ _ nb]; exact h3.c1 i hi, fun i hi => by rw [World.cell?_setCell_far _ _ _ _ nb]; exact h3.c2 i hi, fun i hi => by rw [World.cell?_setCell_far _ _ _ _ nb]; exact h3.c3 i hi⟩)
            have HC2 := hide hc2
            have HO2 := hide hok2
            have HI2 := hide hin2
            clear hg q hs2 hc2 hok2 htag hb3 hs' hc' ho' hkv hkids hl2 hin2 r3 s3 f3 KV3 K4
            go_wp2_with fail
            exact ⟨⟨k + 1, pre ++ [t], l2, a2, l2.length, cap3, vs ++ [.iface T u], by omega, hl3, by go_num, rfl, S4, HC2, HO2, hll3, HI2, hide (by simp; omega), KV4, ks, B4, R4, hide (by have := unhide kz; simp [World.setCell]; omega)⟩, by simp [Go.RowKit.intOf]; omega⟩
        · have ek : k = n := by omega
          subst ek
          have ko := hide ((unhide hkids).done)
          have c0 := (unhide hro).c0 0 (by simp)
          have c1 := (unhide hro).c1 0 (by simp)
          have c2 := (unhide hro).c2 0 (by simp)
          have c3 := (unhide hro).c3 0 (by simp)
          simp only [List.getElem_cons_zero, Nat.zero_mul, Nat.add_zero] at c0 c1 c2 c3
          have kl : pre.length = k := (unhide hkids).2.1
          have vl := unhide hvl
          obtain ⟨C3, r3, s3, f3⟩ := (unhide hkv).row
          have HC3 := hide (show ∀ i (h : i < vs.length), wr.cell? ⟨kb, i, none⟩ = some vs[i] from fun i h => by rw [r3.cell]; exact f3 i h)
          have q := hide (filterTreeOf_any x kb k (vs.getD 0 .nilIface) wr (unhide HN) (unhide H6) (fun h => by
            have h0 : 0 < vs.length := by omega
            have e : vs.getD 0 .nilIface = vs[0] := by rw [List.getD_eq_getElem?_getD, List.getElem?_eq_getElem h0]; rfl
            rw [e]
            exact ⟨((unhide hkv).at_ 0 (by omega) h0).if_, unhide HC3 0 h0⟩))
          have yes := hide (grow_node (unhide HN) (by rw [unhide T6]; exact unhide ko))
          have FA := hide (show ∀ w' : World, Below wr.heap.size wr w' → FilAt w' w.heap.size (r + 1) (.node x pre) (treeV x (.slice (some ⟨kb, 0, none⟩) pre.length pre.length) (vs.getD 0 .nilIface)) from fun w' hb => by
            have h1 : w.heap.size ≤ kb := by rw [unhide HKB]; exact (unhide B1).size
            exact ⟨kb, vs, rfl, by omega, h1, Nat.lt_of_lt_of_le (unhide hzk) hb.size, fun i h => cellB hb (unhide hzk) (unhide HC3 i h), fun i h h' => (((unhide hkv).at_ i h h').fr (Fu.below hb _)).lo (by omega)⟩)
          rw [kl] at FA
          obtain ⟨T, u, htv⟩ := treeV_if x (.slice (some ⟨kb, 0, none⟩) k k) (vs.getD 0 .nilIface)
          rw [htv] at q FA
          clear r3 s3 f3 hkids htv
          go_wp2_with fail
          refine (unhide q).mono ?_
          rintro e w3 ⟨rfl, hb3⟩
          have HB3 := hide hb3
          have FA3 := hide (unhide FA w3 hb3)
          clear q c0 c1 c2 c3 hb3 FA
          go_wp2_with fail
          have hn2 := (unhide hs').1
          refine bodyPost_ret (v := .tuple #[.iface T u, .slice a' n' cap', .bool true]) (by simp [results, Try.results19, go_sem]) rfl ⟨.inr ⟨.node x pre, l', T, u, a', cap', unhide yes, by rw [hn2], ?_, ?_, ?_, unhide ho', unhide FA3, unhide hin⟩, ?_⟩
          · rw [← hn2]; exact (unhide hs').keep (unhide HB3)
          · rw [← hn2]; exact unhide hc'
          · exact Nat.le_succ_of_le (unhide hll)
          · exact (unhide B1).trans (((unhide hb').trans ((unhide HB3).mono (unhide hb').size)).mono (unhide B1).size)
end Go.Proofs.Ytlkpeolecfemnaa.V
