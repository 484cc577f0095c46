/- GRcS, GWit, one behind the other. -/
import Derived.Test.YtakjnbdjjeccoaaJ20
import Derived.Test.YtakjnbdjjeccoaaJ23
import Derived.Test.YtakjnbdjjeccoaaJ22
/- spec.l5Reach, spec.ReachOf. -/
namespace Go.Proofs.Ytakjnbdjjeccoaa
open Go.RowKit

/-- How many steps. -/
noncomputable def dstN (E : Bs → Bs → Prop) (g m : Bs) : Nat := @dite Nat (∃ n, Dist E g m n) (Classical.propDecidable _) (fun h => Classical.choose h) (fun _ => 0)
theorem dstN_eq {E : Bs → Bs → Prop} {g m : Bs} {n : Nat} (h : Dist E g m n) : dstN E g m = n := by
  unfold dstN
  have hx : ∃ n, Dist E g m n := ⟨n, h⟩
  rw [dif_pos hx]
  exact (Classical.choose_spec hx).uniq h
noncomputable def rcN (l : List NestT) (g m : Bs) : ReachT := ⟨g, m, (dstN (EdR l) g m : Int)⟩
/-- After the first k rings: x is there if one of them has m. -/
structure AtX {α : Type} (R : List (List Bs)) (m : Bs) (x : α) (k : Nat) (pre O : List α) : Prop where
  yes : (∃ j, ∃ h : j < R.length, j < k ∧ m ∈ R[j]) → O = pre ++ [x]
  no : (¬ ∃ j, ∃ h : j < R.length, j < k ∧ m ∈ R[j]) → O = pre
theorem AtX.start {α : Type} (R : List (List Bs)) (m : Bs) (x : α) (pre : List α) : AtX R m x 0 pre pre := ⟨fun ⟨_, _, h, _⟩ => absurd h (Nat.not_lt_zero _), fun _ => rfl⟩
theorem AtX.skip {α : Type} {R : List (List Bs)} {m : Bs} {x : α} {k : Nat} {pre O : List α} (h : AtX R m x k pre O) (hk : k < R.length) (hm : ¬ m ∈ R[k]) : AtX R m x (k + 1) pre O := by
  have : (∃ j, ∃ h : j < R.length, j < k + 1 ∧ m ∈ R[j]) ↔ ∃ j, ∃ h : j < R.length, j < k ∧ m ∈ R[j] := by
    constructor
    · rintro ⟨j, hj, h1, h2⟩
      by_cases e : j = k
      · subst e; exact absurd h2 hm
      · exact ⟨j, hj, by omega, h2⟩
    · rintro ⟨j, hj, h1, h2⟩; exact ⟨j, hj, by omega, h2⟩
  exact ⟨fun q => h.yes (this.1 q), fun q => h.no (fun r => q (this.2 r))⟩
theorem AtX.take {α : Type} {E : Bs → Bs → Prop} {s : Bs} {R : List (List Bs)} (hP : RingP E s R) {m : Bs} {x : α} {k : Nat} {pre O : List α} (h : AtX R m x k pre O) (hk : k < R.length) (hm : m ∈ R[k]) : AtX R m x (k + 1) pre (O ++ [x]) := by
  have : ¬ ∃ j, ∃ h : j < R.length, j < k ∧ m ∈ R[j] := by
    rintro ⟨j, hj, h1, h2⟩
    have := hP.once hj hk h2 hm
    omega
  exact ⟨fun _ => by rw [h.no this], fun q => absurd ⟨k, hk, by omega, hm⟩ q⟩
theorem AtX.len {α : Type} {R : List (List Bs)} {m : Bs} {x : α} {k : Nat} {pre O : List α} (h : AtX R m x k pre O) : O.length ≤ pre.length + 1 := by
  by_cases q : ∃ j, ∃ h : j < R.length, j < k ∧ m ∈ R[j]
  · rw [h.yes q]; simp
  · rw [h.no q]; omega
/-- The rows of l5Reach. -/
structure TW (w0 w : World) (v : Value) (O : List ReachT) (vG : Value) (G : List Bs) (base : Nat) (vR : Value) (R : List (List Bs)) (sl : List Value) (vM : Value) (M : List Bs) : Prop where
  out : w.ownsRow w0.heap.size 70 3 v O.length (ReachsV O)
  grp : w.ownsRow w0.heap.size 9 1 vG G.length (G.map Value.string)
  rg : RgAt w base vR R sl
  mem : w.ownsRow w0.heap.size 9 1 vM M.length (M.map Value.string)
  below : Below w0.heap.size w0 w
theorem TW.keep {w0 w w' : World} {v : Value} {O : List ReachT} {vG : Value} {G : List Bs} {base : Nat} {vR : Value} {R : List (List Bs)} {sl : List Value} {vM : Value} {M : List Bs} (h : TW w0 w v O vG G base vR R sl vM M) (hb : Below w.heap.size w w') : TW w0 w' v O vG G base vR R sl vM M :=
  ⟨own_keep h.out hb, own_keep h.grp hb, h.rg.keep hb, own_keep h.mem hb, bTr h.below hb⟩
theorem TW.app {w0 w w' : World} {v v' : Value} {O : List ReachT} {vG : Value} {G : List Bs} {base : Nat} {vR : Value} {R : List (List Bs)} {sl : List Value} {vM : Value} {M : List Bs} {x : ReachT} {o : Obj} (h0 : TW w0 w v O vG G base vR R sl vM M)
    (hown : w'.ownsRow w0.heap.size 70 3 v' (O.length + 1) (ReachsV O ++ encReach x)) (hg : (w.alloc o).grownBy w' v.ownBlock) : TW w0 w' v' (O ++ [x]) vG G base vR R sl vM M := by
  have h := h0.keep (bAl (Below.refl _ w) o)
  refine ⟨by rw [List.length_append, ReachsV_snoc]; exact hown, h.grp.kept hg (own_ne_type h.grp h.out (by decide)), ⟨h.rg.row.kept hg (own_ne_type h.rg.row h.out (by decide)), fun k hk => ?_⟩, h.mem.kept hg (own_ne_type h.mem h.out (by decide)), h.below.grown hg h.below.size (fun k hk => (h.out.lt k hk).1)⟩
  obtain ⟨u, h1, h2⟩ := h.rg.each k hk
  exact ⟨u, h1, h2.kept hg (own_ne_type h2 h.out (by decide))⟩
theorem QW.apps {w0 w w' : World} {v v' : Value} {O B : List Bs} {vG : Value} {G : List Bs} (h : QW w0 w v O vG G)
    (hown : w'.ownsRow w0.heap.size 9 1 v' (O.length + B.length) (O.map Value.string ++ B.map Value.string)) (hg : w.grownBy w' v.ownBlock) (hat : v'.ownBlock = v.ownBlock ∨ v'.ownBlock = some w.heap.size) : QW w0 w' v' (O ++ B) vG G :=
  ⟨by rw [List.length_append, List.map_append]; exact hown, h.grp.kept hg h.dj.ne, h.dj.app hat h.grp, h.below.grown hg h.below.size (fun k hk => (h.out.lt k hk).1)⟩
theorem QR.apps {w0 w w' : World} {v v' : Value} {O : List Bs} {vG : Value} {G : List Bs} {base : Nat} {vR : Value} {R : List (List Bs)} {sl : List Value} (h : QW w0 w v O vG G) (q : QR w v base vR R sl)
    (hg : w.grownBy w' v.ownBlock) (hat : v'.ownBlock = v.ownBlock ∨ v'.ownBlock = some w.heap.size) : QR w' v' base vR R sl :=
  ⟨q.rg.grown' h.out q.dj hg, fun u hu => by obtain ⟨n, xs, ho⟩ := q.rg.sl_own hu; exact (q.dj u hu).app hat ho⟩
/-- What the first j groups have. -/
structure PRj (l : List NestT) (G : List Bs) (j : Nat) (O : List ReachT) : Prop where
  ris : O.Pairwise (fun a b => cfN (a.f0, a.f1) (b.f0, b.f1) < 0)
  mem : ∀ x, x ∈ O ↔ x.f0 ∈ G.take j ∧ ∃ n : Nat, x.f2 = (n : Int) ∧ Dist (EdR l) x.f0 x.f1 n
theorem PRj.start (l : List NestT) (G : List Bs) : PRj l G 0 [] := ⟨List.Pairwise.nil, fun x => by simp⟩
theorem PRj.next {l : List NestT} {G M : List Bs} {j : Nat} {O : List ReachT} (h : PRj l G j O) (hG : RisS G) (hj : j < G.length) (hM : RisS M) (hm : ∀ m, m ∈ M ↔ ∃ n, Dist (EdR l) G[j] m n) : PRj l G (j + 1) (O ++ M.map (rcN l G[j])) := by
  refine ⟨List.pairwise_append.2 ⟨h.ris, ?_, fun a ha b hb => ?_⟩, fun x => ?_⟩
  · rw [List.pairwise_map]
    exact List.Pairwise.imp (fun {a b} (q : cmpB a b < 0) => (cfN_lt (G[j], a) (G[j], b)).2 (.inr ⟨rfl, q⟩)) hM
  · obtain ⟨m, _, rfl⟩ := List.mem_map.1 hb
    obtain ⟨i, hi, e⟩ := List.getElem_of_mem ((h.mem a).1 ha).1
    rw [List.length_take] at hi
    rw [List.getElem_take] at e
    refine (cfN_lt _ _).2 (.inl ?_)
    show cmpB a.f0 G[j] < 0
    rw [← e]
    exact hG.lt hj (by omega)
  · rw [List.mem_append, h.mem x, List.mem_map, List.take_succ_eq_append_getElem hj, List.mem_append, List.mem_singleton]
    constructor
    · rintro (⟨h1, h2⟩ | ⟨m, h1, rfl⟩)
      · exact ⟨.inl h1, h2⟩
      · obtain ⟨n, hn⟩ := (hm m).1 h1
        exact ⟨.inr rfl, dstN (EdR l) G[j] m, rfl, by rw [dstN_eq hn]; exact hn⟩
    · rintro ⟨h1 | h1, n, h2, h3⟩
      · exact .inl ⟨h1, n, h2, h3⟩
      · refine .inr ⟨x.f1, (hm _).2 ⟨n, h1 ▸ h3⟩, ?_⟩
        unfold rcN
        obtain ⟨f0, f1, f2⟩ := x
        simp only at h1 h2 h3 ⊢
        subst h1
        rw [dstN_eq h3, h2]
open Classical in
theorem PRj.len {l : List NestT} (hg : GoodL l) {G : List Bs} {j : Nat} {O : List ReachT} (h : PRj l G j O) : O.length ≤ 40000 := by
  have h1 : (O.map fun x => (x.f0, x.f1)).Nodup := by
    unfold List.Nodup
    rw [List.pairwise_map]
    exact h.ris.imp (fun {a b} q e => by rw [e] at q; exact cfN_irr _ q)
  have := pairs_le (l := l) h1 (fun p hp => by
    obtain ⟨x, hx, rfl⟩ := List.mem_map.1 hp
    obtain ⟨_, n, _, hn⟩ := (h.mem x).1 hx
    exact Inn.pair ((dist_congr (edG_iff hg)).2 hn))
  simpa using this
theorem RingP.flat {E : Bs → Bs → Prop} {g : Bs} {R : List (List Bs)} (h : RingP E g R) (m : Bs) : m ∈ R.flatten ↔ ∃ n, Dist E g m n := by
  rw [List.mem_flatten]
  constructor
  · rintro ⟨r, hr, hm⟩
    obtain ⟨k, hk, rfl⟩ := List.getElem_of_mem hr
    exact ⟨k + 1, (h.at_ k hk m).1 hm⟩
  · rintro ⟨n, hn⟩
    have h2 := h.all m n hn
    have h3 := hn.1
    exact ⟨R[n - 1]'(by omega), List.getElem_mem _, (h.at_ (n - 1) (by omega) m).2 (by rw [show n - 1 + 1 = n by omega]; exact hn)⟩

set_option maxRecDepth 100000 in
set_option maxHeartbeats 1000000 in
theorem l5Reach_any (a : Option Addr) (len cap : Nat) (l : List NestT) (w : World) (hG : GoodL l) (hs : SlNest w a len l) (hok : ∀ q ∈ l, NestT.Ok q) :
    Calls Try.prog 50 #[.slice a len cap] w fun e w' => (∃ v r, e = .returned v ∧ PRea l r ∧ w'.ownsRow w.heap.size 70 3 v r.length (ReachsV r)) ∧ Below w.heap.size w w' := by
  obtain ⟨i0, hi, hz0, hz1, hz2⟩ := info_parts info_str
  obtain ⟨i5, hi5, hy0, hy1, hy2⟩ := info_parts info_Reach
  have HS := hide hs
  have GD := hide hG
  have h200 : len ≤ 200 := by rw [hs.1]; exact hG.1
  have qr := hide (l5Groups_any a len cap l w h200 hs hok)
  clear hs hok hG
  go_enter Try.func50, Try.ntmps50
  go_wp2_with fail
  refine (unhide qr).mono ?_
  rintro e w2 ⟨⟨vG, G, rfl, ⟨hG1, hG2, hG3⟩, hG4⟩, hb2⟩
  have HR := hide hG1
  have HM := hide hG2
  obtain ⟨_, aG, capG, rfl⟩ := own_slLen hG4
  have G4 := hide hG4
  have B2 := hide hb2
  clear hG1 hG2 hG4 hb2 qr
  go_wp2_with fail
  go_loopw [3, 17] (fun v i wr => ∃ (j : Nat) (O : List ReachT), j ≤ G.length ∧ i = .int .i64 j ∧ Hid (wr.ownsRow w.heap.size 70 3 v O.length (ReachsV O)) ∧ Hid (wr.ownsRow w.heap.size 9 1 (.slice aG G.length capG) G.length (G.map Value.string)) ∧ Hid (PRj l G j O) ∧ Hid (Below w.heap.size w wr)) (fun _ i _ => G.length - (Go.RowKit.intOf i).toNat)
  case atStart => exact ⟨0, [], Nat.zero_le _, rfl, hide (World.ownsRow_nil _ _ _ _), G4, hide (PRj.start l G), B2⟩
  case round =>
    clear G4 B2
    obtain ⟨j, O, hj, rfl, hO, hGr, hP, hB⟩ := hrel
    by_cases hlt : j < G.length
    · obtain ⟨a1', cap1', e1, hsl⟩ := own_strs (unhide hGr)
      cases e1
      obtain ⟨bG, off, rfl, hrow⟩ := hsl.at (k := j) hlt
      have c0 := hrow.c j hlt
      have zG := hrow.z
      have eT := hide (fun (M : List Bs) (hM : RisS M) (hm : ∀ m, m ∈ M ↔ ∃ n, Dist (EdR l) G[j] m n) => (unhide hP).next (unhide HR) hlt hM hm)
      clear hrow hsl
      generalize G[j] = g at c0 eT
      have qr := hide (l5Rings_any a len cap l g wr h200 ((unhide HS).keep (unhide hB)))
      go_wp2_with fail
      refine (unhide qr).mono ?_
      rintro e w3 ⟨⟨vR, R, sl, rfl, hR, hRP⟩, hb3⟩
      obtain ⟨_, aR, capR, rfl⟩ := own_slLen hR.row
      have HP := hide hRP
      have hRc := hRP.cnt
      have hRl := hRP.len
      have HRl := hide (show ∀ k (h : k < R.length), (R[k]).length ≤ 200 from fun k h => Nat.le_trans (ring_len h) hRP.len)
      have HSz := hide (show ∀ x ∈ R.flatten, x.size ≤ maxLen from fun x hx => by
        obtain ⟨n, hn⟩ := (hRP.flat x).1 hx
        obtain ⟨c, hc⟩ := dist_last hn
        have := ((edG_iff (unhide GD) c x).2 hc).ok.2
        unfold maxLen; omega)
      have O3 := hide (own_keep (unhide hO) hb3)
      have G3 := hide (own_keep (unhide hGr) hb3)
      have B3 := hide (bTr (unhide hB) hb3)
      have Q3 := hide (show QR w3 (.slice none 0 0) wr.heap.size (.slice aR R.length capR) R sl from ⟨hR, fun u _ => dj_nil u⟩)
      obtain ⟨base, hbase⟩ : ∃ b, b = wr.heap.size := ⟨_, rfl⟩
      rw [← hbase] at Q3
      clear hR hRP hb3 qr hO hGr hB c0 hbase
      go_wp2_with fail
      go_loopw [6, 26] (fun v i wx => ∃ k : Nat, k ≤ R.length ∧ i = .int .i64 k ∧ Hid (QW w wx v ((R.take k).flatten) (.slice (some ⟨bG, off, none⟩) G.length capG) G) ∧ Hid (QR wx v base (.slice aR R.length capR) R sl) ∧ Hid (wx.ownsRow w.heap.size 70 3 u3 O.length (ReachsV O))) (fun _ i _ => R.length - (Go.RowKit.intOf i).toNat)
      case atStart => exact ⟨0, Nat.zero_le _, rfl, hide ⟨World.ownsRow_nil _ _ _ _, unhide G3, dj_nil _, unhide B3⟩, Q3, O3⟩
      case round =>
        clear O3 G3 B3 Q3
        obtain ⟨k, hk, rfl, hQ, hR, hO⟩ := hrel
        by_cases hlt2 : k < R.length
        · obtain ⟨u, hu1, hu2⟩ := (unhide hR).rg.each k hlt2
          obtain ⟨gR, cR, eR, _⟩ := own_some (unhide hR).rg.row (by omega)
          cases eR
          have c1 : wr.cell? ⟨gR, k, none⟩ = some u := by
            rw [(unhide hR).rg.row.cellAt k (by omega)]; exact hu1
          have zR : gR < wr.heap.size := ((unhide hR).rg.row.lt gR rfl).2
          have hne := List.length_pos_iff.2 ((unhide HP).ne k hlt2)
          obtain ⟨gU, cU, eU, _⟩ := own_some hu2 hne
          subst eU
          have hlen := unhide HRl k hlt2
          have HU := hide hu2
          have hA : (R.take k).flatten.length ≤ 200 := Nat.le_trans (flat_take_le R k) hRl
          have eF := hide (show (R.take (k + 1)).flatten = (R.take k).flatten ++ R[k] by rw [List.take_succ_eq_append_getElem hlt2, List.flatten_append]; simp)
          clear hu1 hu2
          generalize R[k] = RK at c1 hne hlen HU eF
          generalize (R.take k).flatten = FK at hQ hA eF
          go_wp2_with (at_builtin; refine wpList_append_own_at _ rfl _ _ 45 rfl w.heap.size 9 i0 _ 1 16 Try.underlying45 hi hz0 hz1 hz2 rfl (by decide) _ _ _ rfl (unhide hQ).out ⟨gU, 0, none⟩ RK.length cU (RK.map Value.string) rfl (by simp) ((unhide HU).cells (g := gU) rfl) (fun x hx => by obtain ⟨y, _, rfl⟩ := List.mem_map.1 hx; rfl) (by unfold maxLen; omega) (by omega) (unhide hQ).below.size ?_; intro v5 w5 hown5 hgrow5 _ hat5; have Q5 := hide ((unhide hQ).apps hown5 hgrow5 hat5); have R5 := hide (QR.apps (unhide hQ) (unhide hR) hgrow5 hat5); have O5 := hide ((unhide hO).kept hgrow5 (own_ne_type (unhide hO) (unhide hQ).out (by decide))); clear hown5 hgrow5 hat5)
          exact ⟨⟨k + 1, by omega, by go_num, hide (by rw [unhide eF]; exact unhide Q5), R5, O5⟩, by simp [Go.RowKit.intOf]; omega⟩
        · obtain rfl : k = R.length := by omega
          obtain ⟨a6, cap6, e6, hs6⟩ := own_strs (unhide hQ).out
          subst e6
          rw [List.take_length] at hs6 hQ
          have eQ : (Value.slice a6 (R.take R.length).flatten.length cap6) = .slice a6 R.flatten.length cap6 := by rw [List.take_length]
          rw [eQ] at hR ⊢
          obtain ⟨FL, hFL⟩ : ∃ FL, FL = R.flatten := ⟨_, rfl⟩
          have HFL := hide hFL
          have hFl2 : FL.length ≤ 200 := by rw [hFL]; exact hRl
          rw [← hFL] at hs6 hQ hR ⊢
          have qs := hide (l5Sorted_any a6 FL.length cap6 FL wr (by omega) hs6 (by rw [hFL]; exact unhide HSz))
          clear hFL
          have G5 := hide (unhide hQ).grp
          have B5 := hide (unhide hQ).below
          have R5 := hide (unhide hR).rg
          clear hQ hR hs6 eQ
          go_wp2_with fail
          refine (unhide qs).mono ?_
          rintro e w5 ⟨⟨vM, M, rfl, ⟨hM1, hM2, hM3⟩, hM4⟩, hb5⟩
          obtain ⟨_, aM, capM, rfl⟩ := own_slLen hM4
          have HM1 := hide hM1
          have HM2 := hide (show ∀ m, m ∈ M ↔ ∃ n, Dist (EdR l) g m n from fun m => by rw [hM2 m, unhide HFL, (unhide HP).flat m])
          have PN := hide (unhide eT M hM1 (unhide HM2))
          have hMl : M.length ≤ 200 := by omega
          have T5 := hide (show TW w w5 u3 O (.slice (some ⟨bG, off, none⟩) G.length capG) G base (.slice aR R.length capR) R sl (.slice aM M.length capM) M from ⟨own_keep (unhide hO) hb5, own_keep (unhide G5) hb5, (unhide R5).keep hb5, own_base hM4 (unhide B5).size, bTr (unhide B5) hb5⟩)
          have hOl : O.length ≤ 40000 := (unhide hP).len (unhide GD)
          clear hM1 hM2 hM3 hM4 hb5 qs hO G5 B5 R5 eT hP
          go_wp2_with fail
          go_loopw [3, 37] (fun v i wx => ∃ (q : Nat) (O' : List ReachT), q ≤ M.length ∧ i = .int .i64 q ∧ Hid (TW w wx v O' (.slice (some ⟨bG, off, none⟩) G.length capG) G base (.slice aR R.length capR) R sl (.slice aM M.length capM) M) ∧ Hid (O' = O ++ (M.take q).map (rcN l g))) (fun _ i _ => M.length - (Go.RowKit.intOf i).toNat)
          case atStart => exact ⟨0, O, Nat.zero_le _, rfl, T5, hide (by simp)⟩
          case round =>
            clear T5
            obtain ⟨q, O', hq, rfl, hT, hOe⟩ := hrel
            have hOl2 : O'.length ≤ 40300 := by rw [unhide hOe, List.length_append, List.length_map, List.length_take]; omega
            by_cases hlt3 : q < M.length
            · obtain ⟨a1', cap1', e1, hsl⟩ := own_strs (unhide hT).mem
              cases e1
              obtain ⟨bM, offM, rfl, hrow⟩ := hsl.at (k := q) hlt3
              have c0 := hrow.c q hlt3
              have zM := hrow.z
              have hmm := hide ((unhide HM2 M[q]).1 (List.getElem_mem hlt3))
              have eN := hide (show O ++ (M.take (q + 1)).map (rcN l g) = O' ++ [rcN l g M[q]] by rw [unhide hOe, List.take_succ_eq_append_getElem hlt3, List.map_append, List.append_assoc]; rfl)
              clear hrow hsl hOe
              generalize M[q] = m at c0 hmm eN
              go_wp2_with fail
              go_loopw [3, 43] (fun v i wx => ∃ (k : Nat) (O2 : List ReachT), k ≤ R.length ∧ i = .int .i64 k ∧ Hid (TW w wx v O2 (.slice (some ⟨bG, off, none⟩) G.length capG) G base (.slice aR R.length capR) R sl (.slice (some ⟨bM, offM, none⟩) M.length capM) M) ∧ Hid (AtX R m (rcN l g m) k O' O2)) (fun _ i _ => R.length - (Go.RowKit.intOf i).toNat)
              case atStart => exact ⟨0, O', Nat.zero_le _, rfl, hT, hide (AtX.start R m _ O')⟩
              case round =>
                clear hT c0
                obtain ⟨k, O2, hk, rfl, hT, hA⟩ := hrel
                have hO2l := (unhide hA).len
                by_cases hlt4 : k < R.length
                · obtain ⟨u, hu1, hu2⟩ := (unhide hT).rg.each k hlt4
                  obtain ⟨gR, cR, eR, _⟩ := own_some (unhide hT).rg.row (by omega)
                  cases eR
                  have c1 : wr.cell? ⟨gR, k, none⟩ = some u := by
                    rw [(unhide hT).rg.row.cellAt k (by omega)]; exact hu1
                  have zR : gR < wr.heap.size := ((unhide hT).rg.row.lt gR rfl).2
                  obtain ⟨au, cu, eu, hsu⟩ := own_strs hu2
                  subst eu
                  have hrl := unhide HRl k hlt4
                  have qh := hide (l3Has_any au (R[k]).length cu R[k] m wr (by omega) hsu)
                  have eS := hide (fun h => (unhide hA).skip hlt4 h)
                  have eK := hide (fun h => (unhide hA).take (unhide HP) hlt4 h)
                  have eX := hide (show m ∈ R[k] → rcN l g m = ⟨g, m, (k : Int) + 1⟩ from fun h => by
                    unfold rcN
                    rw [dstN_eq (((unhide HP).at_ k hlt4 m).1 h)]; rfl)
                  clear hsu hu1 hu2 hA
                  generalize R[k] = RK at qh eS eK eX c1 hrl
                  go_wp2_with fail
                  refine (unhide qh).mono ?_
                  rintro e w6 ⟨⟨v, rfl, hv⟩, hw6⟩
                  subst hw6
                  have HV := hide hv
                  clear hv qh
                  cases v
                  · have A2 := hide (unhide eS (fun h => by have := (unhide HV).2 h; cases this))
                    clear HV eS eK eX
                    go_wp2_with fail
                    exact ⟨⟨k + 1, O2, by omega, by go_num, hT, A2⟩, by simp [Go.RowKit.intOf]; omega⟩
                  · have A2 := hide (unhide eK ((unhide HV).1 rfl))
                    have X2 := hide (unhide eX ((unhide HV).1 rfl))
                    clear HV eS eK eX
                    go_wp2_with (at_builtin; refine wpList_append_own_at _ rfl _ _ 29 rfl w.heap.size 70 i5 _ 3 40 Try.underlying29 hi5 hy0 hy1 hy2 rfl (by decide) _ _ _ rfl ((unhide hT).out.alloc _) ⟨_, 0, none⟩ 1 1 [.string g, .string m, .int .i64 ((k : Int) + 1)] rfl rfl (cell_new_at _ _ rfl _ _ _ rfl) (fun x hx => by simp at hx; rcases hx with rfl | rfl | rfl <;> rfl) (by unfold maxLen; omega) (by omega) (by have := (unhide hT).below.size; simp; omega) ?_; intro v7 w7 hown7 hgrow7 _ _; have T7 := hide ((unhide hT).app (x := ⟨g, m, (k : Int) + 1⟩) hown7 hgrow7); clear hown7 hgrow7)
                    exact ⟨⟨k + 1, O2 ++ [rcN l g m], by omega, by go_num, hide (by rw [unhide X2]; exact unhide T7), A2⟩, by simp [Go.RowKit.intOf]; omega⟩
                · obtain rfl : k = R.length := by omega
                  have E2 := hide (show O2 = O ++ (M.take (q + 1)).map (rcN l g) by
                    rw [unhide eN]
                    refine (unhide hA).yes ?_
                    obtain ⟨n, hn⟩ := unhide hmm
                    have h2 := (unhide HP).all m n hn
                    have h3 := hn.1
                    exact ⟨n - 1, by omega, by omega, ((unhide HP).at_ (n - 1) (by omega) m).2 (by rw [show n - 1 + 1 = n by omega]; exact hn)⟩)
                  clear hA eN
                  go_wp2_with fail
                  exact ⟨⟨q + 1, O2, by omega, by go_num, hT, E2⟩, by simp [Go.RowKit.intOf]; omega⟩
            · obtain rfl : q = M.length := by omega
              have P2 := hide (show PRj l G (j + 1) O' by rw [unhide hOe, List.take_length]; exact unhide PN)
              have O5 := hide (unhide hT).out
              have G5 := hide (unhide hT).grp
              have B5 := hide (unhide hT).below
              clear hT hOe PN
              go_wp2_with fail
              exact ⟨⟨j + 1, O', by omega, by go_num, O5, G5, P2, B5⟩, by simp [Go.RowKit.intOf]; omega⟩
    · obtain rfl : j = G.length := by omega
      have FIN := hide (show PRea l O from ⟨(unhide hP).ris, fun x => by
        rw [(unhide hP).mem x, List.take_length]
        have e : ∀ n, Dist (EdG l) x.f0 x.f1 n ↔ Dist (EdR l) x.f0 x.f1 n := fun n => dist_congr (edG_iff (unhide GD))
        constructor
        · rintro ⟨_, n, h1, h2⟩; exact ⟨n, h1, (e n).2 h2⟩
        · rintro ⟨n, h1, h2⟩
          refine ⟨(unhide HM x.f0).2 ?_, n, h1, (e n).1 h2⟩
          exact (Inn.pair h2).2.1⟩)
      clear hP hGr
      go_wp2_with fail
      go_ret
      exact ⟨⟨_, O, rfl, unhide FIN, unhide hO⟩, unhide hB⟩

set_option maxHeartbeats 1000000 in
theorem sReachOf_any (a : Option Addr) (len cap : Nat) (l : List NestT) (w : World) (hl : len ≤ maxLen) (hs : SlNest w a len l) (hok : ∀ q ∈ l, NestT.Ok q) :
    Calls Try.prog 16 #[.slice a len cap] w fun e w' => (∃ v r, e = .returned v ∧ PRea l r ∧ w'.ownsRow w.heap.size 70 3 v r.length (ReachsV r)) ∧ Below w.heap.size w w' := by
  have HS := hide hs
  have HO := hide hok
  have qg := hide (sGoodNests_any a len cap l w hl hs hok)
  clear hs hok
  go_enter Try.func16, Try.ntmps16
  go_wp2_with fail
  refine (unhide qg).mono ?_
  rintro e w1 ⟨⟨gd, rfl, hgd⟩, hb1⟩
  have HG := hide hgd
  have B1 := hide hb1
  clear hgd hb1 qg
  cases gd
  · have FIN := hide (show PRea l [] from ⟨List.Pairwise.nil, fun x => ⟨(fun h => by simp at h), fun ⟨n, _, hn⟩ => by
      have := (unhide HG).2 (Inn.pair hn).1
      cases this⟩⟩)
    clear HG
    go_wp2_with fail
    go_ret
    exact ⟨⟨_, [], rfl, unhide FIN, World.ownsRow_nil _ _ _ _⟩, unhide B1⟩
  · have qr := hide (l5Reach_any a len cap l w1 ((unhide HG).1 rfl) ((unhide HS).keep (unhide B1)) (unhide HO))
    clear HG
    go_wp2_with fail
    refine (unhide qr).mono ?_
    rintro e w2 ⟨⟨v, r, rfl, h1, h2⟩, hb2⟩
    have FIN := hide (show PRea l r ∧ w2.ownsRow w.heap.size 70 3 v r.length (ReachsV r) from ⟨h1, own_base h2 (unhide B1).size⟩)
    have B3 := hide (bTr (unhide B1) hb2)
    clear h1 h2 hb2 qr B1
    go_wp2_with fail
    go_ret
    exact ⟨⟨v, r, rfl, unhide FIN⟩, unhide B3⟩
end Go.Proofs.Ytakjnbdjjeccoaa
/- spec.l5With. -/
namespace Go.Proofs.Ytakjnbdjjeccoaa
open Go.RowKit

theorem ris_at {l : List NestT} (hG : GoodL l) {i j : Nat} (hj : j < l.length) (hij : i < j) : cfN (l[i].f0, l[i].f1) (l[j].f0, l[j].f1) < 0 := by
  have hr : ∀ d (hd : i + d + 1 < l.length), cfN (l[i].f0, l[i].f1) ((l[i + d + 1]'hd).f0, (l[i + d + 1]'hd).f1) < 0 := by
    intro d
    induction d with
    | zero => intro hd; exact hG.2.2 (i + 0 + 1) hd (by omega) hd
    | succ d ih => intro hd; exact cfN_tr _ _ _ (ih (by omega)) (hG.2.2 (i + (d + 1) + 1) hd (by omega) hd)
  have h2 := hr (j - i - 1) (by omega)
  have : l[i + (j - i - 1) + 1]'(by omega) = l[j] := by congr 1; omega
  rw [this] at h2; exact h2
theorem cfN_zero {x y : Bs × Bs} (h : cfN x y = 0) : x = y := by
  rcases cfN_tri x y with k | k | k
  · omega
  · exact k
  · have e : ¬ cfN x y < 0 := by omega
    exact absurd (cfN_tri x y) (by
      rintro (a | a | a)
      · exact e a
      · subst a; exact cfN_irr _ k
      · exact (by
          unfold cfN cmpNe orI at h
          split at h
          · next h0 =>
            have e1 := cmpB_zero h0
            have e2 := cmpB_zero h
            have : x = y := Prod.ext e1 e2
            subst this; exact cfN_irr _ k
          · next h0 => exact h0 h))
theorem cfN_self (x : Bs × Bs) : cfN x x = 0 := by
  unfold cfN cmpNe orI cmpB
  rw [cmpT_self, cmpT_self]; rfl
theorem cfN_pos {x y : Bs × Bs} (h : 0 < cfN x y) : cfN y x < 0 := by
  rcases cfN_tri x y with k | k | k
  · omega
  · subst k; rw [cfN_self] at h; omega
  · exact k
/-- l5With after the first k nests. -/
structure WI (l : List NestT) (n : Bs × Bs) (add : Bool) (k : Nat) (put : Bool) (O : List NestT) : Prop where
  ris : O.Pairwise (fun a b => cfN (a.f0, a.f1) (b.f0, b.f1) < 0)
  mem : ∀ x : NestT, x ∈ O ↔ ((∃ i, ∃ h : i < l.length, i < k ∧ l[i] = x) ∧ (x.f0, x.f1) ≠ n) ∨ ((add = true ∧ put = true) ∧ (x.f0, x.f1) = n)
  nop : put = false → add = true ∧ ∀ i (h : i < l.length), i < k → cfN (l[i].f0, l[i].f1) n < 0
  pt : add = true → put = true → ∃ i, ∃ h : i < l.length, i ≤ k ∧ ¬ cfN (l[i].f0, l[i].f1) n < 0
  len : O.length ≤ k + 1
theorem WI.start (l : List NestT) (n : Bs × Bs) (add : Bool) : WI l n add 0 (!add) [] := by
  refine ⟨List.Pairwise.nil, fun x => ?_, fun h => ?_, fun h1 h2 => ?_, by simp⟩
  · constructor
    · intro h; simp at h
    · rintro (⟨⟨i, h, h1, _⟩, _⟩ | ⟨⟨h1, h2⟩, _⟩)
      · omega
      · rw [h1] at h2; cases h2
  · cases add
    · cases h
    · exact ⟨rfl, fun i h h1 => absurd h1 (Nat.not_lt_zero _)⟩
  · rw [h1] at h2; cases h2
theorem WI.put {l : List NestT} {n : Bs × Bs} {add : Bool} {k : Nat} {O : List NestT} (h : WI l n add k false O) (hk : k < l.length) (hc : ¬ cfN (l[k].f0, l[k].f1) n < 0) (hl : O.length ≤ k) : WI l n add k true (O ++ [⟨n.1, n.2⟩]) := by
  obtain ⟨ha, hn⟩ := h.nop rfl
  refine ⟨List.pairwise_append.2 ⟨h.ris, by simp, fun a ha' b hb => ?_⟩, fun x => ?_, (fun e => by cases e), fun _ _ => ⟨k, hk, Nat.le_refl _, hc⟩, by simp; omega⟩
  · simp at hb; subst hb
    rcases (h.mem a).1 ha' with ⟨⟨i, hi, h1, rfl⟩, _⟩ | ⟨⟨_, h1⟩, _⟩
    · exact hn i hi h1
    · cases h1
  · rw [List.mem_append, h.mem x, List.mem_singleton]
    constructor
    · rintro ((q | ⟨⟨_, q⟩, _⟩) | rfl)
      · exact .inl q
      · cases q
      · exact .inr ⟨⟨ha, rfl⟩, rfl⟩
    · rintro (q | ⟨_, q⟩)
      · exact .inl (.inl q)
      · exact .inr (by cases x; simp at q; rw [← q])
theorem WI.take {l : List NestT} (hG : GoodL l) {n : Bs × Bs} {add : Bool} {k : Nat} {put : Bool} {O : List NestT} (h : WI l n add k put O) (hk : k < l.length) (hc : ¬ cfN (l[k].f0, l[k].f1) n = 0) (hp : put = false → cfN (l[k].f0, l[k].f1) n < 0) : WI l n add (k + 1) put (O ++ [l[k]]) := by
  have hne : (l[k].f0, l[k].f1) ≠ n := fun e => hc (by rw [e]; exact cfN_self n)
  refine ⟨List.pairwise_append.2 ⟨h.ris, by simp, fun a ha' b hb => ?_⟩, fun x => ?_, fun e => ⟨(h.nop e).1, fun i hi h1 => ?_⟩, (fun h1 h2 => by obtain ⟨i, hi, a, b⟩ := h.pt h1 h2; exact ⟨i, hi, by omega, b⟩), by have := h.len; simp; omega⟩
  · simp at hb; subst hb
    rcases (h.mem a).1 ha' with ⟨⟨i, hi, h1, rfl⟩, _⟩ | ⟨⟨h1, h2⟩, h3⟩
    · exact ris_at hG hk h1
    · obtain ⟨i, hi, hik, hni⟩ := h.pt h1 h2
      rw [h3]
      by_cases e : i = k
      · subst e
        refine cfN_pos ?_
        omega
      · have h4 := ris_at hG hk (show i < k by omega)
        rcases cfN_tri n (l[i].f0, l[i].f1) with q | q | q
        · exact cfN_tr _ _ _ q h4
        · rw [q]; exact h4
        · exact absurd q hni
  · rw [List.mem_append, h.mem x, List.mem_singleton]
    constructor
    · rintro ((⟨⟨i, hi, h1, h2⟩, q⟩ | q) | rfl)
      · exact .inl ⟨⟨i, hi, by omega, h2⟩, q⟩
      · exact .inr q
      · exact .inl ⟨⟨k, hk, by omega, rfl⟩, hne⟩
    · rintro (⟨⟨i, hi, h1, rfl⟩, q⟩ | q)
      · by_cases e : i = k
        · subst e; exact .inr rfl
        · exact .inl (.inl ⟨⟨i, hi, by omega, rfl⟩, q⟩)
      · exact .inl (.inr q)
  · by_cases e2 : i = k
    · subst e2; exact hp e
    · exact (h.nop e).2 i hi (by omega)
theorem WI.skip {l : List NestT} {n : Bs × Bs} {add : Bool} {k : Nat} {O : List NestT} (h : WI l n add k true O) (hk : k < l.length) (hc : cfN (l[k].f0, l[k].f1) n = 0) : WI l n add (k + 1) true O := by
  have he := cfN_zero hc
  refine ⟨h.ris, fun x => ?_, (fun e => by cases e), (fun h1 h2 => by obtain ⟨i, hi, a, b⟩ := h.pt h1 h2; exact ⟨i, hi, by omega, b⟩), by have := h.len; omega⟩
  rw [h.mem x]
  constructor
  · rintro (⟨⟨i, hi, h1, h2⟩, q⟩ | q)
    · exact .inl ⟨⟨i, hi, by omega, h2⟩, q⟩
    · exact .inr q
  · rintro (⟨⟨i, hi, h1, rfl⟩, q⟩ | q)
    · by_cases e : i = k
      · subst e; exact absurd he q
      · exact .inl ⟨⟨i, hi, by omega, rfl⟩, q⟩
    · exact .inr q
/-- The whole of it. -/
structure WT (l : List NestT) (n : Bs × Bs) (add : Bool) (r : List NestT) : Prop where
  ris : r.Pairwise (fun a b => cfN (a.f0, a.f1) (b.f0, b.f1) < 0)
  mem : ∀ x : NestT, x ∈ r ↔ (x ∈ l ∧ (x.f0, x.f1) ≠ n) ∨ (add = true ∧ (x.f0, x.f1) = n)
  len : r.length ≤ l.length + 1
theorem mem_idx {l : List NestT} {x : NestT} : (∃ i, ∃ h : i < l.length, i < l.length ∧ l[i] = x) ↔ x ∈ l := by
  constructor
  · rintro ⟨i, h, _, rfl⟩; exact List.getElem_mem h
  · intro h
    obtain ⟨i, hi, rfl⟩ := List.getElem_of_mem h
    exact ⟨i, hi, hi, rfl⟩
theorem WI.end_ {l : List NestT} {n : Bs × Bs} {add : Bool} {O : List NestT} (h : WI l n add l.length true O) : WT l n add O :=
  ⟨h.ris, fun x => by rw [h.mem x, mem_idx]; simp, h.len⟩
theorem WI.end2 {l : List NestT} {n : Bs × Bs} {add : Bool} {O : List NestT} (h : WI l n add l.length false O) (hl : O.length ≤ l.length) : WT l n add (O ++ [⟨n.1, n.2⟩]) := by
  obtain ⟨ha, hn⟩ := h.nop rfl
  refine ⟨List.pairwise_append.2 ⟨h.ris, by simp, fun a ha' b hb => ?_⟩, fun x => ?_, by simp; omega⟩
  · simp at hb; subst hb
    rcases (h.mem a).1 ha' with ⟨⟨i, hi, h1, rfl⟩, _⟩ | ⟨⟨_, h1⟩, _⟩
    · exact hn i hi h1
    · cases h1
  · rw [List.mem_append, h.mem x, mem_idx, List.mem_singleton]
    constructor
    · rintro ((q | ⟨⟨_, q⟩, _⟩) | rfl)
      · exact .inl q
      · cases q
      · exact .inr ⟨ha, rfl⟩
    · rintro (q | ⟨_, q⟩)
      · exact .inl (.inl q)
      · exact .inr (by cases x; simp at q; rw [← q])
end Go.Proofs.Ytakjnbdjjeccoaa
