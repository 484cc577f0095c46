/- GGro2, GMem, one behind the other. -/
import Derived.Test.YtakjnbdjjeccoaaJ22
import Derived.Test.YtakjnbdjjeccoaaJ21
/- spec.l5Groups, GroupsOf, Loops. -/
namespace Go.Proofs.Ytakjnbdjjeccoaa
open Go.RowKit

set_option maxRecDepth 100000 in
set_option maxHeartbeats 1000000 in
theorem l5Groups_any (a : Option Addr) (len cap : Nat) (l : List NestT) (w : World) (hl : len ≤ 200) (hs : SlNest w a len l) (hok : ∀ q ∈ l, NestT.Ok q) :
    Calls Try.prog 68 #[.slice a len cap] w fun e w' => (∃ v r, e = .returned v ∧ (RisS r ∧ (∀ x, x ∈ r ↔ ∃ q ∈ l, NestT.f0 q = x) ∧ r.length ≤ 200) ∧ w'.ownsRow w.heap.size 9 1 v r.length (r.map Value.string)) ∧ Below w.heap.size w w' := by
  obtain ⟨i0, hi, hz0, hz1, hz2⟩ := info_parts info_str
  have HS := hide hs
  have HL := hide hs.1
  have HO := hide hok
  clear hs hok
  go_enter Try.func68, Try.ntmps68
  go_wp2_with fail
  go_loopw [3, 8] (fun v i wr => ∃ k : Nat, k ≤ len ∧ i = .int .i64 k ∧ Hid (wr.ownsRow w.heap.size 9 1 v k (((l.take k).map NestT.f0).map Value.string)) ∧ Hid (Below w.heap.size w wr)) (fun _ i _ => len - (Go.RowKit.intOf i).toNat)
  case atStart => exact ⟨0, Nat.zero_le _, rfl, hide (World.ownsRow_nil _ _ _ _), hide (Below.refl _ _)⟩
  case round =>
    obtain ⟨k, hk, rfl, hO, hB⟩ := hrel
    by_cases hlt : k < len
    · have hk' : k < l.length := by rw [← unhide HL]; exact hlt
      obtain ⟨b, off, rfl, hrow⟩ := ((unhide HS).keep (unhide hB)).at hlt
      have c0 := hrow.c0 k hk'
      have c1 := hrow.c1 k hk'
      have zk := hrow.z
      have eT := hide (show ((l.take (k + 1)).map NestT.f0).map Value.string = ((l.take k).map NestT.f0).map Value.string ++ [.string (l[k]).f0] by rw [List.take_succ_eq_append_getElem hk', List.map_append, List.map_append]; rfl)
      obtain ⟨W2, hW2⟩ : ∃ W2, W2 = wr.alloc (.cells #[.string (l[k]).f0, .string (l[k]).f1] 42) := ⟨_, rfl⟩
      have O2 := hide (show W2.ownsRow w.heap.size 9 1 _ k (((l.take k).map NestT.f0).map Value.string) by rw [hW2]; exact (unhide hO).alloc _)
      have B2 := hide (show Below w.heap.size w W2 by rw [hW2]; exact bAl (unhide hB) _)
      have R2 := show RowIs W2 wr.heap.size #[.string (l[k]).f0, .string (l[k]).f1] 42 by rw [hW2]; exact RowIs.new _ _ _
      have x0 := R2.at (o := 0) (v := .string (l[k]).f0) rfl
      have zx := R2.lt
      have HW2 := hide hW2.symm
      clear hrow hO hB hW2 R2
      generalize l[k] = A at c0 c1 eT HW2 x0
      generalize ((l.take k).map NestT.f0).map Value.string = X at O2 eT
      go_wp2_with (at_builtin; rw [unhide HW2]; refine wpList_append_own_at _ rfl _ _ 45 rfl w.heap.size 9 i0 _ 1 16 Try.underlying45 hi hz0 hz1 hz2 rfl (by decide) _ _ _ rfl ((unhide O2).alloc _) ⟨_, 0, none⟩ 1 1 [.string A.f0] rfl rfl (cell_one_at _ _ (by rw [← unhide HW2]; simp) _ _) (fun x hx => by simp at hx; subst hx; rfl) (by unfold maxLen; omega) (by omega) (by have := (unhide B2).size; simp; omega) ?_; intro v5 w5 hown5 hgrow5 _ _; have O5 := hide hown5; have B5 := hide (below_append (unhide B2) (Nat.le_refl _) (unhide O2) hgrow5); clear hown5 hgrow5)
      exact ⟨⟨k + 1, by omega, by go_num, hide (by rw [unhide eT]; exact unhide O5), B5⟩, by simp [Go.RowKit.intOf]; omega⟩
    · have ek : k = l.length := by rw [← unhide HL]; omega
      have hkl : k ≤ 200 := by omega
      obtain ⟨LL, hLL⟩ : ∃ LL, LL = l.map NestT.f0 := ⟨_, rfl⟩
      have O2 := hide (show wr.ownsRow w.heap.size 9 1 u3 LL.length (LL.map Value.string) by
        have := unhide hO
        rw [ek, List.take_length, ← hLL] at this
        rw [show LL.length = l.length by rw [hLL, List.length_map]]
        exact this)
      have hln : LL.length ≤ 200 := by rw [hLL, List.length_map]; omega
      have hmm := hide (show ∀ x, x ∈ LL ↔ ∃ q ∈ l, NestT.f0 q = x from fun x => by rw [hLL, List.mem_map])
      have hoo : ∀ x ∈ LL, ByteArray.size x ≤ maxLen := fun x hx => by
        obtain ⟨q, h1, rfl⟩ := (unhide hmm x).1 hx
        exact (unhide HO q h1).o0
      obtain ⟨a3, cap3, e3, hs3⟩ := own_strs (unhide O2)
      subst e3
      have qs := hide (l5Sorted_any a3 LL.length cap3 LL wr (by omega) hs3 hoo)
      clear hO hLL ek O2 hs3 hoo
      go_wp2_with fail
      refine (unhide qs).mono ?_
      rintro e w2 ⟨⟨v, r, rfl, ⟨h1, h2, h3⟩, h4⟩, hb⟩
      have FIN := hide (show (RisS r ∧ (∀ x, x ∈ r ↔ ∃ q ∈ l, NestT.f0 q = x) ∧ r.length ≤ 200) ∧ w2.ownsRow w.heap.size 9 1 v r.length (r.map Value.string) from ⟨⟨h1, fun x => by rw [h2 x, unhide hmm x], by omega⟩, own_base h4 (unhide hB).size⟩)
      have B3 := hide (bTr (unhide hB) hb)
      clear h1 h2 h3 h4 hb qs hB hmm
      go_wp2_with fail
      go_ret
      exact ⟨⟨v, r, rfl, unhide FIN⟩, unhide B3⟩

theorem RgAt.grown' {w w' : World} {base b2 : Nat} {v x : Value} {R : List (List Bs)} {sl : List Value} {c : Nat} {xs : List Value} (h : RgAt w base v R sl) (hx : w.ownsRow b2 9 1 x c xs) (hd : ∀ u ∈ sl, DJ x u) (hg : w.grownBy w' x.ownBlock) : RgAt w' base v R sl :=
  ⟨h.row.kept hg (own_ne_type h.row hx (by decide)), fun k hk => by
    obtain ⟨u, h1, h2⟩ := h.each k hk
    exact ⟨u, h1, h2.kept hg (hd u (List.mem_of_getElem? h1)).ne⟩⟩
theorem RgAt.sl_own {w : World} {base : Nat} {v : Value} {R : List (List Bs)} {sl : List Value} (h : RgAt w base v R sl) {u : Value} (hu : u ∈ sl) : ∃ n xs, w.ownsRow base 9 1 u n xs := by
  obtain ⟨k, hk, rfl⟩ := List.getElem_of_mem hu
  have hl : sl.length = R.length := by have := h.row.1; omega
  obtain ⟨u, h1, h2⟩ := h.each k (by omega)
  rw [List.getElem?_eq_getElem hk] at h1
  cases h1
  exact ⟨_, _, h2⟩
/-- What a group's round holds: the answer so far, the groups, the rings. -/
structure QW (w0 w : World) (v : Value) (O : List Bs) (vG : Value) (G : List Bs) : Prop where
  out : w.ownsRow w0.heap.size 9 1 v O.length (O.map Value.string)
  grp : w.ownsRow w0.heap.size 9 1 vG G.length (G.map Value.string)
  dj : DJ v vG
  below : Below w0.heap.size w0 w
structure QR (w : World) (v : Value) (base : Nat) (vR : Value) (R : List (List Bs)) (sl : List Value) : Prop where
  rg : RgAt w base vR R sl
  dj : ∀ u ∈ sl, DJ v u
theorem QW.keep {w0 w w' : World} {v : Value} {O : List Bs} {vG : Value} {G : List Bs} (h : QW w0 w v O vG G) (hb : Below w.heap.size w w') : QW w0 w' v O vG G :=
  ⟨own_keep h.out hb, own_keep h.grp hb, h.dj, bTr h.below hb⟩
theorem QW.app {w0 w w' : World} {v v' : Value} {O : List Bs} {vG : Value} {G : List Bs} {b : Bs} {o : Obj} (h0 : QW w0 w v O vG G)
    (hown : w'.ownsRow w0.heap.size 9 1 v' (O.length + 1) (O.map Value.string ++ [.string b])) (hg : (w.alloc o).grownBy w' v.ownBlock) (hat : v'.ownBlock = v.ownBlock ∨ v'.ownBlock = some (w.alloc o).heap.size) : QW w0 w' v' (O ++ [b]) vG G := by
  have h := h0.keep (bAl (Below.refl _ w) o)
  exact ⟨by rw [List.length_append, List.map_append]; exact hown, h.grp.kept hg h.dj.ne, h.dj.app hat h.grp, h.below.grown hg h.below.size (fun k hk => (h.out.lt k hk).1)⟩
theorem QR.app {w0 w w' : World} {v v' : Value} {O : List Bs} {vG : Value} {G : List Bs} {o : Obj} {base : Nat} {vR : Value} {R : List (List Bs)} {sl : List Value} (h0 : QW w0 w v O vG G) (q0 : QR w v base vR R sl)
    (hg : (w.alloc o).grownBy w' v.ownBlock) (hat : v'.ownBlock = v.ownBlock ∨ v'.ownBlock = some (w.alloc o).heap.size) : QR w' v' base vR R sl := by
  have h := h0.keep (bAl (Below.refl _ w) o)
  have q := q0.rg.keep (bAl (Below.refl _ w) o)
  exact ⟨q.grown' h.out q0.dj hg, fun u hu => by obtain ⟨n, xs, ho⟩ := q.sl_own hu; exact (q0.dj u hu).app hat ho⟩
theorem QR.keep {w w' : World} {v : Value} {base : Nat} {vR : Value} {R : List (List Bs)} {sl : List Value} (q : QR w v base vR R sl) (hb : Below w.heap.size w w') : QR w' v base vR R sl := ⟨q.rg.keep hb, q.dj⟩
/-- Whether m is in g. -/
noncomputable def innB (l : List NestT) (g m : Bs) : Bool := @decide (Inn l g m) (Classical.propDecidable _)
theorem innB_iff {l : List NestT} {g m : Bs} : innB l g m = true ↔ Inn l g m := @decide_eq_true_iff _ (Classical.propDecidable _)
theorem RingP.inn {l : List NestT} (hG : GoodL l) {g : Bs} {R : List (List Bs)} (h : RingP (EdR l) g R) (m : Bs) : Inn l g m ↔ ∃ k, ∃ hk : k < R.length, m ∈ R[k] := by
  have e : ∀ n, Dist (EdG l) g m n ↔ Dist (EdR l) g m n := fun n => dist_congr (edG_iff hG)
  constructor
  · rintro ⟨n, hn⟩
    have h1 := (e n).1 hn
    have h2 := h.all m n h1
    have h3 := h1.1
    exact ⟨n - 1, by omega, (h.at_ (n - 1) (by omega) m).2 (by rw [show n - 1 + 1 = n by omega]; exact h1)⟩
  · rintro ⟨k, hk, hm⟩
    exact ⟨k + 1, (e _).2 ((h.at_ k hk m).1 hm)⟩
theorem RingP.once {E : Bs → Bs → Prop} {g : Bs} {R : List (List Bs)} (h : RingP E g R) {m : Bs} {i j : Nat} (hi : i < R.length) (hj : j < R.length) (h1 : m ∈ R[i]) (h2 : m ∈ R[j]) : i = j := by
  have := ((h.at_ i hi m).1 h1).uniq ((h.at_ j hj m).1 h2)
  omega
/-- After the first k rings: g is there if one of them has m. -/
structure AtR (R : List (List Bs)) (m g : Bs) (k : Nat) (pre O : List Bs) : Prop where
  yes : (∃ j, ∃ h : j < R.length, j < k ∧ m ∈ R[j]) → O = pre ++ [g]
  no : (¬ ∃ j, ∃ h : j < R.length, j < k ∧ m ∈ R[j]) → O = pre
theorem AtR.start (R : List (List Bs)) (m g : Bs) (pre : List Bs) : AtR R m g 0 pre pre := ⟨fun ⟨_, _, h, _⟩ => absurd h (Nat.not_lt_zero _), fun _ => rfl⟩
theorem AtR.skip {R : List (List Bs)} {m g : Bs} {k : Nat} {pre O : List Bs} (h : AtR R m g k pre O) (hk : k < R.length) (hm : ¬ m ∈ R[k]) : AtR R m g (k + 1) pre O := by
  have : (∃ j, ∃ h : j < R.length, j < k + 1 ∧ m ∈ R[j]) ↔ ∃ j, ∃ h : j < R.length, j < k ∧ m ∈ R[j] := by
    constructor
    · rintro ⟨j, hj, h1, h2⟩
      by_cases e : j = k
      · subst e; exact absurd h2 hm
      · exact ⟨j, hj, by omega, h2⟩
    · rintro ⟨j, hj, h1, h2⟩; exact ⟨j, hj, by omega, h2⟩
  exact ⟨fun q => h.yes (this.1 q), fun q => h.no (fun r => q (this.2 r))⟩
theorem AtR.take {E : Bs → Bs → Prop} {s : Bs} {R : List (List Bs)} (hP : RingP E s R) {m g : Bs} {k : Nat} {pre O : List Bs} (h : AtR R m g k pre O) (hk : k < R.length) (hm : m ∈ R[k]) : AtR R m g (k + 1) pre (O ++ [g]) := by
  have : ¬ ∃ j, ∃ h : j < R.length, j < k ∧ m ∈ R[j] := by
    rintro ⟨j, hj, h1, h2⟩
    have := hP.once hj hk h2 hm
    omega
  exact ⟨fun _ => by rw [h.no this], fun q => absurd ⟨k, hk, by omega, hm⟩ q⟩
theorem AtR.end_ {l : List NestT} (hG : GoodL l) {R : List (List Bs)} {m g : Bs} (hP : RingP (EdR l) g R) {pre O : List Bs} (h : AtR R m g R.length pre O) : O = pre ++ (if innB l g m = true then [g] else []) := by
  have e : (∃ j, ∃ h : j < R.length, j < R.length ∧ m ∈ R[j]) ↔ Inn l g m := by
    rw [hP.inn hG m]
    exact ⟨fun ⟨j, h1, _, h2⟩ => ⟨j, h1, h2⟩, fun ⟨j, h1, h2⟩ => ⟨j, h1, h1, h2⟩⟩
  by_cases hx : Inn l g m
  · rw [if_pos (innB_iff.2 hx)]; exact h.yes (e.2 hx)
  · rw [if_neg (fun q => hx (innB_iff.1 q)), List.append_nil]; exact h.no (fun q => hx (e.1 q))

set_option maxRecDepth 100000 in
set_option maxHeartbeats 2000000 in
theorem sGroupsOf_any (a : Option Addr) (len cap : Nat) (l : List NestT) (m : Bs) (w : World) (hl : len ≤ maxLen) (hs : SlNest w a len l) (hok : ∀ q ∈ l, NestT.Ok q) (_hm : m.size ≤ 1048576) :
    Calls Try.prog 36 #[.slice a len cap, .string m] w fun e w' => (∃ v r, e = .returned v ∧ PGrp l m r ∧ w'.ownsRow w.heap.size 9 1 v r.length (r.map Value.string)) ∧ Below w.heap.size w w' := by
  obtain ⟨i0, hi, hz0, hz1, hz2⟩ := info_parts info_str
  have HS := hide hs
  have HL := hide hs.1
  have HO := hide hok
  have qg := hide (sGoodNests_any a len cap l w hl hs hok)
  clear hs hok
  unfold maxLen at hl
  go_enter Try.func36, Try.ntmps36
  go_wp2_with fail
  refine (unhide qg).mono ?_
  rintro e w1 ⟨⟨gd, rfl, hgd⟩, hb1⟩
  have HG := hide hgd
  have B1 := hide hb1
  clear hgd hb1 qg
  cases gd
  · have FIN := hide (show PGrp l m [] from ⟨List.Pairwise.nil, fun x => ⟨fun h => by simp at h, fun ⟨n, hn⟩ => by
      obtain ⟨c, hc⟩ := dist_first hn
      have := (unhide HG).2 hc.1
      cases this⟩⟩)
    clear HG
    go_wp2_with fail
    go_ret
    exact ⟨⟨_, [], rfl, unhide FIN, World.ownsRow_nil _ _ _ _⟩, unhide B1⟩
  · have GD := hide ((unhide HG).1 rfl)
    have h200 : len ≤ 200 := by rw [unhide HL]; exact (unhide GD).1
    have qr := hide (l5Groups_any a len cap l w1 h200 ((unhide HS).keep (unhide B1)) (unhide HO))
    clear HG
    go_wp2_with fail
    refine (unhide qr).mono ?_
    rintro e w2 ⟨⟨vG, G, rfl, ⟨hG1, hG2, hG3⟩, hG4⟩, hb2⟩
    have HR := hide hG1
    have HM := hide hG2
    obtain ⟨_, aG, capG, rfl⟩ := own_slLen hG4
    have Q0 := hide (show QW w w2 (.slice none 0 0) [] (.slice aG G.length capG) G from ⟨World.ownsRow_nil _ _ _ _, own_base hG4 (unhide B1).size, dj_nil _, bTr (unhide B1) hb2⟩)
    clear hG1 hG2 hG4 hb2 qr B1
    go_wp2_with fail
    go_loopw [5, 16] (fun v i wr => ∃ (j : Nat) (O : List Bs), j ≤ G.length ∧ i = .int .i64 j ∧ Hid (QW w wr v O (.slice aG G.length capG) G) ∧ Hid (O = (G.take j).filter fun g => innB l g m)) (fun _ i _ => G.length - (Go.RowKit.intOf i).toNat)
    case atStart => exact ⟨0, [], Nat.zero_le _, rfl, Q0, hide rfl⟩
    case round =>
      clear Q0
      obtain ⟨j, O, hj, rfl, hQ, hO⟩ := hrel
      have hOl : O.length ≤ 200 := by
        rw [unhide hO]
        exact Nat.le_trans (filter_len_le _ _) (by rw [List.length_take]; omega)
      by_cases hlt : j < G.length
      · obtain ⟨a1', cap1', e1, hsl⟩ := own_strs (unhide hQ).grp
        cases e1
        obtain ⟨bG, off, rfl, hrow⟩ := hsl.at (k := j) hlt
        have c0 := hrow.c j hlt
        have zG := hrow.z
        have eT := hide (show (G.take (j + 1)).filter (fun g => innB l g m) = (G.take j).filter (fun g => innB l g m) ++ (if innB l G[j] m = true then [G[j]] else []) by
          rw [List.take_succ_eq_append_getElem hlt, List.filter_append]
          congr 1
          by_cases h : innB l G[j] m = true
          · rw [if_pos h]; simp [h]
          · rw [if_neg h]; simp at h; simp [h])
        clear hrow hsl
        generalize G[j] = g at c0 eT
        have qr := hide (l5Rings_any a len cap l g wr h200 ((unhide HS).keep (unhide hQ).below))
        go_wp2_with fail
        refine (unhide qr).mono ?_
        rintro e w3 ⟨⟨vR, R, sl, rfl, hR, hP⟩, hb3⟩
        obtain ⟨_, aR, capR, rfl⟩ := own_slLen hR.row
        have HP := hide hP
        have hRc := hP.cnt
        have Q3 := hide ((unhide hQ).keep hb3)
        have R3 := hide (show QR w3 u5 wr.heap.size (.slice aR R.length capR) R sl from ⟨hR, fun u hu => by
          obtain ⟨n, xs, ho⟩ := hR.sl_own hu
          exact DJ.of (fun q h => ((unhide hQ).out.lt q h).2) (fun q h => (ho.lt q h).1)⟩)
        obtain ⟨base, hbase⟩ : ∃ b, b = wr.heap.size := ⟨_, rfl⟩
        rw [← hbase] at R3
        have A0 := hide (AtR.start R m g O)
        clear hR hP hb3 qr hQ c0 hbase
        go_wp2_with fail
        go_loopw [5, 24] (fun v i wx => ∃ (k : Nat) (O' : List Bs), k ≤ R.length ∧ i = .int .i64 k ∧ Hid (QW w wx v O' (.slice (some ⟨bG, off, none⟩) G.length capG) G) ∧ Hid (QR wx v base (.slice aR R.length capR) R sl) ∧ Hid (AtR R m g k O O')) (fun _ i _ => R.length - (Go.RowKit.intOf i).toNat)
        case atStart => exact ⟨0, O, Nat.zero_le _, rfl, Q3, R3, A0⟩
        case round =>
          clear Q3 R3 A0
          obtain ⟨k, O', hk, rfl, hQ, hR, hA⟩ := hrel
          by_cases hlt2 : k < R.length
          · obtain ⟨u, hu1, hu2⟩ := (unhide hR).rg.each k hlt2
            obtain ⟨gR, cR, eR, _⟩ := own_some (unhide hR).rg.row (by omega)
            cases eR
            have c1 : wr.cell? ⟨gR, k, none⟩ = some u := by
              rw [(unhide hR).rg.row.cellAt k (by omega)]; exact hu1
            have zR : gR < wr.heap.size := ((unhide hR).rg.row.lt gR rfl).2
            obtain ⟨au, cu, eu, hsu⟩ := own_strs hu2
            subst eu
            have hrl : (R[k]).length ≤ 1000000 := by
              have h1 := (unhide HP).len
              have h2 : (R[k]).length ≤ R.flatten.length := by
                have := List.Sublist.length_le (List.sublist_flatten_of_mem (List.getElem_mem hlt2))
                exact this
              omega
            have qh := hide (l3Has_any au (R[k]).length cu R[k] m wr hrl hsu)
            have eS := hide (fun h => (unhide hA).skip hlt2 h)
            have eK := hide (fun h => (unhide hA).take (unhide HP) hlt2 h)
            have hO2 : O'.length ≤ 201 := by
              by_cases q : ∃ j, ∃ h : j < R.length, j < k ∧ m ∈ R[j]
              · rw [(unhide hA).yes q]; simp; omega
              · rw [(unhide hA).no q]; omega
            clear hsu hu1 hu2 hA
            generalize R[k] = RK at qh eS eK c1 hrl
            go_wp2_with fail
            refine (unhide qh).mono ?_
            rintro e w4 ⟨⟨v, rfl, hv⟩, hw4⟩
            subst hw4
            have HV := hide hv
            clear hv qh
            cases v
            · have A2 := hide (unhide eS (fun h => by have := (unhide HV).2 h; cases this))
              clear HV eS eK
              go_wp2_with fail
              exact ⟨⟨k + 1, O', by omega, by go_num, hQ, hR, A2⟩, by simp [Go.RowKit.intOf]; omega⟩
            · have A2 := hide (unhide eK ((unhide HV).1 rfl))
              clear HV eS eK
              go_wp2_with (at_builtin; refine wpList_append_own_at _ rfl _ _ 45 rfl w.heap.size 9 i0 _ 1 16 Try.underlying45 hi hz0 hz1 hz2 rfl (by decide) _ _ _ rfl ((unhide hQ).out.alloc _) ⟨_, 0, none⟩ 1 1 [.string g] rfl rfl (cell_one_at _ _ rfl _ _) (fun x hx => by simp at hx; subst hx; rfl) (by unfold maxLen; omega) (by omega) (by have := (unhide hQ).below.size; simp; omega) ?_; intro v5 w5 hown5 hgrow5 _ hat5; have Q5 := hide ((unhide hQ).app hown5 hgrow5 hat5); have R5 := hide (QR.app (unhide hQ) (unhide hR) hgrow5 hat5); clear hown5 hgrow5 hat5)
              exact ⟨⟨k + 1, O' ++ [g], by omega, by go_num, Q5, R5, A2⟩, by simp [Go.RowKit.intOf]; omega⟩
          · obtain rfl : k = R.length := by omega
            have E2 := hide (show O' = (G.take (j + 1)).filter (fun g => innB l g m) by rw [unhide eT, ← unhide hO]; exact (unhide hA).end_ (unhide GD) (unhide HP))
            clear hR hA eT HP
            go_wp2_with fail
            exact ⟨⟨j + 1, O', by omega, by go_num, hQ, E2⟩, by simp [Go.RowKit.intOf]; omega⟩
      · obtain rfl : j = G.length := by omega
        have FIN := hide (show PGrp l m O ∧ wr.ownsRow w.heap.size 9 1 u5 O.length (O.map Value.string) from ⟨by
          rw [unhide hO, List.take_length]
          refine ⟨(unhide HR).filter _, fun x => ?_⟩
          rw [List.mem_filter, unhide HM x, innB_iff]
          refine ⟨fun h => h.2, fun h => ⟨?_, h⟩⟩
          obtain ⟨n, hn⟩ := h
          obtain ⟨c, hc⟩ := dist_first hn
          obtain ⟨_, i, hi, h1, _⟩ := hc
          exact ⟨l[i], List.getElem_mem hi, h1⟩, (unhide hQ).out⟩)
        have B9 := hide (unhide hQ).below
        clear hQ hO
        go_wp2_with fail
        go_ret
        exact ⟨⟨_, O, rfl, unhide FIN⟩, unhide B9⟩

set_option maxRecDepth 100000 in
set_option maxHeartbeats 2000000 in
theorem sLoops_any (a : Option Addr) (len cap : Nat) (l : List NestT) (w : World) (hl : len ≤ maxLen) (hs : SlNest w a len l) (hok : ∀ q ∈ l, NestT.Ok q)  :
    Calls Try.prog 40 #[.slice a len cap] w fun e w' => (∃ v r, e = .returned v ∧ PLoo l r ∧ w'.ownsRow w.heap.size 9 1 v r.length (r.map Value.string)) ∧ Below w.heap.size w w' := by
  obtain ⟨i0, hi, hz0, hz1, hz2⟩ := info_parts info_str
  have HS := hide hs
  have HL := hide hs.1
  have HO := hide hok
  have qg := hide (sGoodNests_any a len cap l w hl hs hok)
  clear hs hok
  unfold maxLen at hl
  go_enter Try.func40, Try.ntmps40
  go_wp2_with fail
  refine (unhide qg).mono ?_
  rintro e w1 ⟨⟨gd, rfl, hgd⟩, hb1⟩
  have HG := hide hgd
  have B1 := hide hb1
  clear hgd hb1 qg
  cases gd
  · have FIN := hide (show PLoo l [] from ⟨List.Pairwise.nil, fun x => ⟨fun h => by simp at h, fun ⟨n, hn⟩ => by
      obtain ⟨c, hc⟩ := dist_first hn
      have := (unhide HG).2 hc.1
      cases this⟩⟩)
    clear HG
    go_wp2_with fail
    go_ret
    exact ⟨⟨_, [], rfl, unhide FIN, World.ownsRow_nil _ _ _ _⟩, unhide B1⟩
  · have GD := hide ((unhide HG).1 rfl)
    have h200 : len ≤ 200 := by rw [unhide HL]; exact (unhide GD).1
    have qr := hide (l5Groups_any a len cap l w1 h200 ((unhide HS).keep (unhide B1)) (unhide HO))
    clear HG
    go_wp2_with fail
    refine (unhide qr).mono ?_
    rintro e w2 ⟨⟨vG, G, rfl, ⟨hG1, hG2, hG3⟩, hG4⟩, hb2⟩
    have HR := hide hG1
    have HM := hide hG2
    obtain ⟨_, aG, capG, rfl⟩ := own_slLen hG4
    have Q0 := hide (show QW w w2 (.slice none 0 0) [] (.slice aG G.length capG) G from ⟨World.ownsRow_nil _ _ _ _, own_base hG4 (unhide B1).size, dj_nil _, bTr (unhide B1) hb2⟩)
    clear hG1 hG2 hG4 hb2 qr B1
    go_wp2_with fail
    go_loopw [3, 14] (fun v i wr => ∃ (j : Nat) (O : List Bs), j ≤ G.length ∧ i = .int .i64 j ∧ Hid (QW w wr v O (.slice aG G.length capG) G) ∧ Hid (O = (G.take j).filter fun g => innB l g g)) (fun _ i _ => G.length - (Go.RowKit.intOf i).toNat)
    case atStart => exact ⟨0, [], Nat.zero_le _, rfl, Q0, hide rfl⟩
    case round =>
      clear Q0
      obtain ⟨j, O, hj, rfl, hQ, hO⟩ := hrel
      have hOl : O.length ≤ 200 := by
        rw [unhide hO]
        exact Nat.le_trans (filter_len_le _ _) (by rw [List.length_take]; omega)
      by_cases hlt : j < G.length
      · obtain ⟨a1', cap1', e1, hsl⟩ := own_strs (unhide hQ).grp
        cases e1
        obtain ⟨bG, off, rfl, hrow⟩ := hsl.at (k := j) hlt
        have c0 := hrow.c j hlt
        have zG := hrow.z
        have eT := hide (show (G.take (j + 1)).filter (fun g => innB l g g) = (G.take j).filter (fun g => innB l g g) ++ (if innB l G[j] G[j] = true then [G[j]] else []) by
          rw [List.take_succ_eq_append_getElem hlt, List.filter_append]
          congr 1
          by_cases h : innB l G[j] G[j] = true
          · rw [if_pos h]; simp [h]
          · rw [if_neg h]; simp at h; simp [h])
        clear hrow hsl
        generalize G[j] = g at c0 eT
        have qr := hide (l5Rings_any a len cap l g wr h200 ((unhide HS).keep (unhide hQ).below))
        go_wp2_with fail
        refine (unhide qr).mono ?_
        rintro e w3 ⟨⟨vR, R, sl, rfl, hR, hP⟩, hb3⟩
        obtain ⟨_, aR, capR, rfl⟩ := own_slLen hR.row
        have HP := hide hP
        have hRc := hP.cnt
        have Q3 := hide ((unhide hQ).keep hb3)
        have R3 := hide (show QR w3 u3 wr.heap.size (.slice aR R.length capR) R sl from ⟨hR, fun u hu => by
          obtain ⟨n, xs, ho⟩ := hR.sl_own hu
          exact DJ.of (fun q h => ((unhide hQ).out.lt q h).2) (fun q h => (ho.lt q h).1)⟩)
        obtain ⟨base, hbase⟩ : ∃ b, b = wr.heap.size := ⟨_, rfl⟩
        rw [← hbase] at R3
        have A0 := hide (AtR.start R g g O)
        clear hR hP hb3 qr hQ c0 hbase
        go_wp2_with fail
        go_loopw [3, 22] (fun v i wx => ∃ (k : Nat) (O' : List Bs), k ≤ R.length ∧ i = .int .i64 k ∧ Hid (QW w wx v O' (.slice (some ⟨bG, off, none⟩) G.length capG) G) ∧ Hid (QR wx v base (.slice aR R.length capR) R sl) ∧ Hid (AtR R g g k O O')) (fun _ i _ => R.length - (Go.RowKit.intOf i).toNat)
        case atStart => exact ⟨0, O, Nat.zero_le _, rfl, Q3, R3, A0⟩
        case round =>
          clear Q3 R3 A0
          obtain ⟨k, O', hk, rfl, hQ, hR, hA⟩ := hrel
          by_cases hlt2 : k < R.length
          · obtain ⟨u, hu1, hu2⟩ := (unhide hR).rg.each k hlt2
            obtain ⟨gR, cR, eR, _⟩ := own_some (unhide hR).rg.row (by omega)
            cases eR
            have c1 : wr.cell? ⟨gR, k, none⟩ = some u := by
              rw [(unhide hR).rg.row.cellAt k (by omega)]; exact hu1
            have zR : gR < wr.heap.size := ((unhide hR).rg.row.lt gR rfl).2
            obtain ⟨au, cu, eu, hsu⟩ := own_strs hu2
            subst eu
            have hrl : (R[k]).length ≤ 1000000 := by
              have h1 := (unhide HP).len
              have h2 : (R[k]).length ≤ R.flatten.length := by
                have := List.Sublist.length_le (List.sublist_flatten_of_mem (List.getElem_mem hlt2))
                exact this
              omega
            have qh := hide (l3Has_any au (R[k]).length cu R[k] g wr hrl hsu)
            have eS := hide (fun h => (unhide hA).skip hlt2 h)
            have eK := hide (fun h => (unhide hA).take (unhide HP) hlt2 h)
            have hO2 : O'.length ≤ 201 := by
              by_cases q : ∃ j, ∃ h : j < R.length, j < k ∧ g ∈ R[j]
              · rw [(unhide hA).yes q]; simp; omega
              · rw [(unhide hA).no q]; omega
            clear hsu hu1 hu2 hA
            generalize R[k] = RK at qh eS eK c1 hrl
            go_wp2_with fail
            refine (unhide qh).mono ?_
            rintro e w4 ⟨⟨v, rfl, hv⟩, hw4⟩
            subst hw4
            have HV := hide hv
            clear hv qh
            cases v
            · have A2 := hide (unhide eS (fun h => by have := (unhide HV).2 h; cases this))
              clear HV eS eK
              go_wp2_with fail
              exact ⟨⟨k + 1, O', by omega, by go_num, hQ, hR, A2⟩, by simp [Go.RowKit.intOf]; omega⟩
            · have A2 := hide (unhide eK ((unhide HV).1 rfl))
              clear HV eS eK
              go_wp2_with (at_builtin; refine wpList_append_own_at _ rfl _ _ 45 rfl w.heap.size 9 i0 _ 1 16 Try.underlying45 hi hz0 hz1 hz2 rfl (by decide) _ _ _ rfl ((unhide hQ).out.alloc _) ⟨_, 0, none⟩ 1 1 [.string g] rfl rfl (cell_one_at _ _ rfl _ _) (fun x hx => by simp at hx; subst hx; rfl) (by unfold maxLen; omega) (by omega) (by have := (unhide hQ).below.size; simp; omega) ?_; intro v5 w5 hown5 hgrow5 _ hat5; have Q5 := hide ((unhide hQ).app hown5 hgrow5 hat5); have R5 := hide (QR.app (unhide hQ) (unhide hR) hgrow5 hat5); clear hown5 hgrow5 hat5)
              exact ⟨⟨k + 1, O' ++ [g], by omega, by go_num, Q5, R5, A2⟩, by simp [Go.RowKit.intOf]; omega⟩
          · obtain rfl : k = R.length := by omega
            have E2 := hide (show O' = (G.take (j + 1)).filter (fun g => innB l g g) by rw [unhide eT, ← unhide hO]; exact (unhide hA).end_ (unhide GD) (unhide HP))
            clear hR hA eT HP
            go_wp2_with fail
            exact ⟨⟨j + 1, O', by omega, by go_num, hQ, E2⟩, by simp [Go.RowKit.intOf]; omega⟩
      · obtain rfl : j = G.length := by omega
        have FIN := hide (show PLoo l O ∧ wr.ownsRow w.heap.size 9 1 u3 O.length (O.map Value.string) from ⟨by
          rw [unhide hO, List.take_length]
          refine ⟨(unhide HR).filter _, fun x => ?_⟩
          rw [List.mem_filter, unhide HM x, innB_iff]
          refine ⟨fun h => h.2, fun h => ⟨?_, h⟩⟩
          obtain ⟨n, hn⟩ := h
          obtain ⟨c, hc⟩ := dist_first hn
          obtain ⟨_, i, hi, h1, _⟩ := hc
          exact ⟨l[i], List.getElem_mem hi, h1⟩, (unhide hQ).out⟩)
        have B9 := hide (unhide hQ).below
        clear hQ hO
        go_wp2_with fail
        go_ret
        exact ⟨⟨_, O, rfl, unhide FIN⟩, unhide B9⟩
end Go.Proofs.Ytakjnbdjjeccoaa
/- spec.MembersOf. -/
namespace Go.Proofs.Ytakjnbdjjeccoaa
open Go.RowKit

/-- The members that are no groups of the first k rings, and of the first q of the next. -/
structure MA (R : List (List Bs)) (k q : Nat) (O : List Bs) : Prop where
  mem : ∀ x, x ∈ O ↔ isGrp x = false ∧ ((∃ j, ∃ h : j < R.length, j < k ∧ x ∈ R[j]) ∨ (∃ h : k < R.length, x ∈ (R[k]).take q))
  len : O.length ≤ (R.take k).flatten.length + q
theorem MA.start (R : List (List Bs)) : MA R 0 0 [] := ⟨fun x => by simp, by simp⟩
theorem MA.skip {R : List (List Bs)} {k q : Nat} {O : List Bs} (h : MA R k q O) (hk : k < R.length) (hq : q < (R[k]).length) (hg : isGrp (R[k])[q] = true) : MA R k (q + 1) O := by
  refine ⟨fun x => ?_, by have := h.len; omega⟩
  rw [h.mem x]
  refine and_congr_right fun hx => or_congr_right ?_
  constructor
  · rintro ⟨_, h1⟩; exact ⟨hk, by rw [List.take_succ_eq_append_getElem hq]; exact List.mem_append_left _ h1⟩
  · rintro ⟨_, h1⟩
    rw [List.take_succ_eq_append_getElem hq, List.mem_append, List.mem_singleton] at h1
    rcases h1 with h1 | h1
    · exact ⟨hk, h1⟩
    · rw [h1, hg] at hx; cases hx
theorem MA.take {R : List (List Bs)} {k q : Nat} {O : List Bs} (h : MA R k q O) (hk : k < R.length) (hq : q < (R[k]).length) (hg : isGrp (R[k])[q] = false) : MA R k (q + 1) (O ++ [(R[k])[q]]) := by
  refine ⟨fun x => ?_, by have := h.len; rw [List.length_append, List.length_singleton]; omega⟩
  rw [List.mem_append, List.mem_singleton, h.mem x]
  constructor
  · rintro (⟨h1, h2 | ⟨_, h2⟩⟩ | h1)
    · exact ⟨h1, .inl h2⟩
    · exact ⟨h1, .inr ⟨hk, by rw [List.take_succ_eq_append_getElem hq]; exact List.mem_append_left _ h2⟩⟩
    · refine ⟨by rw [h1]; exact hg, .inr ⟨hk, by rw [List.take_succ_eq_append_getElem hq, h1]; exact List.mem_append_right _ (List.mem_singleton.2 rfl)⟩⟩
  · rintro ⟨h1, h2 | ⟨_, h2⟩⟩
    · exact .inl ⟨h1, .inl h2⟩
    · rw [List.take_succ_eq_append_getElem hq, List.mem_append, List.mem_singleton] at h2
      rcases h2 with h2 | h2
      · exact .inl ⟨h1, .inr ⟨hk, h2⟩⟩
      · exact .inr h2
theorem MA.next {R : List (List Bs)} {k q : Nat} {O : List Bs} (h : MA R k q O) (hk : k < R.length) (hq : q = (R[k]).length) : MA R (k + 1) 0 O := by
  refine ⟨fun x => ?_, ?_⟩
  · rw [h.mem x]
    refine and_congr_right fun _ => ?_
    subst hq
    constructor
    · rintro (⟨j, hj, h1, h2⟩ | ⟨_, h2⟩)
      · exact .inl ⟨j, hj, by omega, h2⟩
      · rw [List.take_length] at h2
        exact .inl ⟨k, hk, by omega, h2⟩
    · rintro (⟨j, hj, h1, h2⟩ | ⟨_, h2⟩)
      · by_cases e : j = k
        · subst e; exact .inr ⟨hk, by rw [List.take_length]; exact h2⟩
        · exact .inl ⟨j, hj, by omega, h2⟩
      · simp at h2
  · have h1 := h.len
    have e : (R.take (k + 1)).flatten.length = (R.take k).flatten.length + (R[k]).length := by
      rw [List.take_succ_eq_append_getElem hk, List.flatten_append, List.length_append]
      simp
    omega
theorem flat_take_le (R : List (List Bs)) (k : Nat) : (R.take k).flatten.length ≤ R.flatten.length := by
  have : R.flatten.length = (R.take k).flatten.length + (R.drop k).flatten.length := by
    rw [← List.length_append, ← List.flatten_append, List.take_append_drop]
  omega
theorem ring_len {R : List (List Bs)} {k : Nat} (h : k < R.length) : (R[k]).length ≤ R.flatten.length := List.Sublist.length_le (List.sublist_flatten_of_mem (List.getElem_mem h))

set_option maxRecDepth 100000 in
set_option maxHeartbeats 2000000 in
theorem sMembersOf_any (a : Option Addr) (len cap : Nat) (l : List NestT) (m : Bs) (w : World) (hl : len ≤ maxLen) (hs : SlNest w a len l) (hok : ∀ q ∈ l, NestT.Ok q) (_hm : m.size ≤ 1048576) :
    Calls Try.prog 31 #[.slice a len cap, .string m] w fun e w' => (∃ v r, e = .returned v ∧ PMem l m r ∧ w'.ownsRow w.heap.size 9 1 v r.length (r.map Value.string)) ∧ Below w.heap.size w w' := by
  obtain ⟨i0, hi, hz0, hz1, hz2⟩ := info_parts info_str
  have HS := hide hs
  have HL := hide hs.1
  have qg := hide (sGoodNests_any a len cap l w hl hs hok)
  clear hs hok
  unfold maxLen at hl
  go_enter Try.func31, Try.ntmps31
  go_wp2_with fail
  refine (unhide qg).mono ?_
  rintro e w1 ⟨⟨gd, rfl, hgd⟩, hb1⟩
  have HG := hide hgd
  have B1 := hide hb1
  clear hgd hb1 qg
  cases gd
  · have FIN := hide (show PMem l m [] from ⟨List.Pairwise.nil, fun x => ⟨fun h => by simp at h, fun ⟨⟨n, hn⟩, _⟩ => by
      obtain ⟨c, hc⟩ := dist_first hn
      have := (unhide HG).2 hc.1
      cases this⟩⟩)
    clear HG
    go_wp2_with fail
    go_ret
    exact ⟨⟨_, [], rfl, unhide FIN, World.ownsRow_nil _ _ _ _⟩, unhide B1⟩
  · have GD := hide ((unhide HG).1 rfl)
    have h200 : len ≤ 200 := by rw [unhide HL]; exact (unhide GD).1
    have qr := hide (l5Rings_any a len cap l m w1 h200 ((unhide HS).keep (unhide B1)))
    clear HG
    go_wp2_with fail
    refine (unhide qr).mono ?_
    rintro e w3 ⟨⟨vR, R, sl, rfl, hR, hP⟩, hb3⟩
    obtain ⟨_, aR, capR, rfl⟩ := own_slLen hR.row
    have HP := hide hP
    have hRc := hP.cnt
    have hRl := hP.len
    have HRl := hide (show ∀ k (h : k < R.length), (R[k]).length ≤ 200 from fun k h => Nat.le_trans (ring_len h) hP.len)
    have HSz := hide (show ∀ k (h : k < R.length), ∀ x ∈ R[k], x.size ≤ maxLen from fun k h x hx => by
      obtain ⟨c, hc⟩ := dist_last ((hP.at_ k h x).1 hx)
      have := ((edG_iff (unhide GD) c x).2 hc).ok.2
      unfold maxLen; omega)
    have Q3 := hide (show QW w w3 (.slice none 0 0) [] (.slice none 0 0) [] from ⟨World.ownsRow_nil _ _ _ _, World.ownsRow_nil _ _ _ _, dj_nil _, bTr (unhide B1) hb3⟩)
    have R3 := hide (show QR w3 (.slice none 0 0) w1.heap.size (.slice aR R.length capR) R sl from ⟨hR, fun u _ => dj_nil u⟩)
    obtain ⟨base, hbase⟩ : ∃ b, b = w1.heap.size := ⟨_, rfl⟩
    rw [← hbase] at R3
    clear hR hP hb3 qr B1 hbase
    go_wp2_with fail
    go_loopw [5, 17] (fun v i wx => ∃ (k : Nat) (O : List Bs), k ≤ R.length ∧ i = .int .i64 k ∧ Hid (QW w wx v O (.slice none 0 0) []) ∧ Hid (QR wx v base (.slice aR R.length capR) R sl) ∧ Hid (MA R k 0 O)) (fun _ i _ => R.length - (Go.RowKit.intOf i).toNat)
    case atStart => exact ⟨0, [], Nat.zero_le _, rfl, Q3, R3, hide (MA.start R)⟩
    case round =>
      clear Q3 R3
      obtain ⟨k, O, hk, rfl, hQ, hR, hA⟩ := hrel
      by_cases hlt : k < R.length
      · obtain ⟨u, hu1, hu2⟩ := (unhide hR).rg.each k hlt
        obtain ⟨gR, cR, eR, _⟩ := own_some (unhide hR).rg.row (by omega)
        cases eR
        have c1 : wr.cell? ⟨gR, k, none⟩ = some u := by
          rw [(unhide hR).rg.row.cellAt k (by omega)]; exact hu1
        have zR : gR < wr.heap.size := ((unhide hR).rg.row.lt gR rfl).2
        obtain ⟨_, au, cu, eu⟩ := own_slLen hu2
        subst eu
        have HU := hide hu1
        have hkl := unhide HRl k hlt
        obtain ⟨nk, hnk⟩ : ∃ n, n = (R[k]).length := ⟨_, rfl⟩
        have HNK := hide hnk
        rw [← hnk] at c1 hkl HU
        clear hu1 hu2 hnk
        go_wp2_with fail
        go_loopw [5, 23] (fun v i wx => ∃ (q : Nat) (O : List Bs), q ≤ nk ∧ i = .int .i64 q ∧ Hid (QW w wx v O (.slice none 0 0) []) ∧ Hid (QR wx v base (.slice (some ⟨gR, 0, none⟩) R.length capR) R sl) ∧ Hid (MA R k q O)) (fun _ i _ => nk - (Go.RowKit.intOf i).toNat)
        case atStart => exact ⟨0, O, Nat.zero_le _, rfl, hQ, hR, hA⟩
        case round =>
          clear hQ hR hA c1 zR
          obtain ⟨q, O, hq, rfl, hQ, hR, hA⟩ := hrel
          by_cases hlt2 : q < nk
          · have hq' : q < (R[k]).length := by rw [← unhide HNK]; exact hlt2
            obtain ⟨u, hu1, hu2⟩ := (unhide hR).rg.each k hlt
            have eu : u = .slice au nk cu := by rw [unhide HU] at hu1; exact (Option.some.inj hu1).symm
            subst eu
            obtain ⟨au', cu', eu', hsu⟩ := own_strs hu2
            cases eu'
            obtain ⟨bU, off, rfl, hrow⟩ := hsu.at (k := q) (by rw [← unhide HNK]; exact hlt2)
            have c2 := hrow.c q hq'
            have zU := hrow.z
            have hsz := unhide HSz k hlt _ (List.getElem_mem hq')
            have qG := hide (fun w => l5Group_any (R[k])[q] hsz w)
            have eS := hide (fun h => (unhide hA).skip hlt hq' h)
            have eK := hide (fun h => (unhide hA).take hlt hq' h)
            have hO2 : O.length ≤ 1000 := by have h1 := (unhide hA).len; have h2 := flat_take_le R k; omega
            clear hrow hsu hu1 hu2 hA hsz
            generalize (R[k])[q] = A at c2 qG eS eK
            cases hg : isGrp A
            · rw [hg] at qG
              have A2 := hide (unhide eK hg)
              clear hg eS eK
              go_wp2_with (first
                | (go_at_call 42; refine (unhide qG _).mono ?_; rintro e w' ⟨rfl, rfl⟩)
                | (at_builtin; refine wpList_append_own_at _ rfl _ _ 45 rfl w.heap.size 9 i0 _ 1 16 Try.underlying45 hi hz0 hz1 hz2 rfl (by decide) _ _ _ rfl ((unhide hQ).out.alloc _) ⟨_, 0, none⟩ 1 1 [.string A] rfl rfl (cell_one_at _ _ rfl _ _) (fun x hx => by simp at hx; subst hx; rfl) (by unfold maxLen; omega) (by omega) (by have := (unhide hQ).below.size; simp; omega) ?_; intro v5 w5 hown5 hgrow5 _ hat5; have Q5 := hide ((unhide hQ).app hown5 hgrow5 hat5); have R5 := hide (QR.app (unhide hQ) (unhide hR) hgrow5 hat5); clear hown5 hgrow5 hat5))
              exact ⟨⟨q + 1, O ++ [A], by omega, by go_num, Q5, R5, A2⟩, by simp [Go.RowKit.intOf]; omega⟩
            · rw [hg] at qG
              have A2 := hide (unhide eS hg)
              clear hg eS eK
              go_wp2_with (go_at_call 42; refine (unhide qG _).mono ?_; rintro e w' ⟨rfl, rfl⟩)
              exact ⟨⟨q + 1, O, by omega, by go_num, hQ, hR, A2⟩, by simp [Go.RowKit.intOf]; omega⟩
          · have A2 := hide ((unhide hA).next hlt (by rw [← unhide HNK]; omega))
            clear hA
            go_wp2_with fail
            exact ⟨⟨k + 1, O, by omega, by go_num, hQ, hR, A2⟩, by simp [Go.RowKit.intOf]; omega⟩
      · obtain rfl : k = R.length := by omega
        have hO2 : O.length ≤ 1000 := by have h1 := (unhide hA).len; have h2 := flat_take_le R R.length; omega
        have hoo : ∀ x ∈ O, ByteArray.size x ≤ maxLen := fun x hx => by
          obtain ⟨_, ⟨j, hj, _, h2⟩ | ⟨h1, _⟩⟩ := ((unhide hA).mem x).1 hx
          · exact unhide HSz j hj x h2
          · exact absurd h1 (Nat.lt_irrefl _)
        obtain ⟨a3, cap3, e3, hs3⟩ := own_strs (unhide hQ).out
        subst e3
        have qs := hide (l5Sorted_any a3 O.length cap3 O wr (by omega) hs3 hoo)
        have B9 := hide (unhide hQ).below
        have FM := hide (show ∀ x, x ∈ O ↔ Inn l m x ∧ isGrp x = false from fun x => by
          rw [(unhide hA).mem x, (unhide HP).inn (unhide GD) x]
          constructor
          · rintro ⟨h1, ⟨j, hj, _, h2⟩ | ⟨h2, _⟩⟩
            · exact ⟨⟨j, hj, h2⟩, h1⟩
            · exact absurd h2 (Nat.lt_irrefl _)
          · rintro ⟨⟨j, hj, h2⟩, h1⟩
            exact ⟨h1, .inl ⟨j, hj, hj, h2⟩⟩)
        clear hQ hR hA hoo hs3
        go_wp2_with fail
        refine (unhide qs).mono ?_
        rintro e w2 ⟨⟨v, r, rfl, ⟨h1, h2, h3⟩, h4⟩, hb⟩
        have FIN := hide (show PMem l m r ∧ w2.ownsRow w.heap.size 9 1 v r.length (r.map Value.string) from ⟨⟨h1, fun x => by rw [h2 x, unhide FM x]⟩, own_base h4 (unhide B9).size⟩)
        have B3 := hide (bTr (unhide B9) hb)
        clear h1 h2 h3 h4 hb qs B9 FM
        go_wp2_with fail
        go_ret
        exact ⟨⟨v, r, rfl, unhide FIN⟩, unhide B3⟩
end Go.Proofs.Ytakjnbdjjeccoaa
