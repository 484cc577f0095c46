/- (impl.graph[string]).way, impl.WayOf. -/
import Derived.Test.YtakjnbdjjeccoaaGWas
import Derived.Test.YtakjnbdjjeccoaaGMkT
namespace Go.Proofs.Ytakjnbdjjeccoaa
open Go.RowKit Go.Maps

theorem dist_chain {E : Bs → Bs → Prop} {a : Bs} : ∀ {n : Nat} {b : Bs}, Dist E a b (n + 1) → ∃ cs : List Bs, cs.length = n + 1 ∧ cs.Nodup ∧ ∀ c ∈ cs, ∃ i, i ≤ n + 1 ∧ Dist E a c i
  | 0, b, h => ⟨[b], rfl, by simp, fun c hc => by simp at hc; subst hc; exact ⟨1, by omega, h⟩⟩
  | n + 1, b, h => by
    obtain ⟨c, hc, _⟩ := h.pred (by omega)
    obtain ⟨cs, h1, h2, h3⟩ := dist_chain hc
    refine ⟨b :: cs, by simp [h1], List.nodup_cons.2 ⟨fun hb => ?_, h2⟩, fun d hd => ?_⟩
    · obtain ⟨i, hi, hd⟩ := h3 b hb
      have := hd.uniq h
      omega
    · rcases List.mem_cons.1 hd with rfl | hd
      · exact ⟨n + 1 + 1, by omega, h⟩
      · obtain ⟨i, hi, hx⟩ := h3 d hd
        exact ⟨i, by omega, hx⟩
open Classical in
theorem dist_le {l : List NestT} {g m : Bs} {k : Nat} (h : Dist (EdG l) g m (k + 1)) : k + 1 ≤ 200 := by
  obtain ⟨cs, h1, h2, h3⟩ := dist_chain h
  have hG := (Inn.pair h).1
  have := nodup_le cs (l.map NestT.f1) h2 (fun c hc => by
    obtain ⟨i, _, hd⟩ := h3 c hc
    obtain ⟨q, q1, q2⟩ := (Inn.pair hd).2.2
    exact List.mem_map.2 ⟨q, q1, q2⟩)
  rw [List.length_map, h1] at this
  exact Nat.le_trans this hG.1
/-- Whether x is just q steps away. -/
def isQ (L : Bs → Option Nat) (q : Nat) (x : Bs) : Bool := decide ((L x).getD 0 = q)

set_option maxHeartbeats 400000 in
theorem wayFn_any (bx by_ bl n q : Nat) (L : Bs → Option Nat) (x : Bs) (w : World) (hx : x.size ≤ maxLen) (hK : KM Try.prog 9 Value.string w bl n (intM L)) (h1 : w.cell? ⟨bx, 0, none⟩ = some (.map (some bl))) (h2 : w.cell? ⟨by_, 0, none⟩ = some (.int .i64 (q : Int))) :
    Calls Try.prog 93 #[.string x, .pointer (some ⟨bx, 0, none⟩), .pointer (some ⟨by_, 0, none⟩)] w fun e w' => e = .returned (.bool (isQ L q x)) ∧ Below w.heap.size w w' := by
  have HK := hide hK
  have el := hide (show (intM L x).getD (.int .i64 0) = .int .i64 (((L x).getD 0 : Nat) : Int) by unfold intM; cases L x <;> rfl)
  have z1 := World.block_lt_of_cell? w ⟨bx, 0, none⟩ h1
  have z2 := World.block_lt_of_cell? w ⟨by_, 0, none⟩ h2
  unfold isQ
  generalize (L x).getD 0 = d at el
  have eb : (((d : Int)) == (q : Int)) = decide (d = q) := by
    rw [Bool.eq_iff_iff]; simp; omega
  clear hK
  go_enter Try.func93, Try.ntmps93
  go_wp2_with (at_lookup; refine wpList_get_km _ kStr rfl _ _ _ rfl _ Try.underlying63 (zeroInt _) bl n _ rfl (unhide HK) x rfl hx _ (unhide el) ?_)
  go_ret
  exact ⟨by first | rfl | (simp only [eb]) | simp, Below.refl _ _⟩

set_option maxRecDepth 100000 in
set_option maxHeartbeats 2000000 in
theorem way_any (lo bg : Nat) (es : List (Bs × Bs)) (tab : Bs → Option Nat) (g m : Bs) (w : World) (hG : GM w lo bg 1000 es tab) (hes : es.length ≤ 200) (hg : g.size ≤ maxLen) (hm : m.size ≤ maxLen) (E : Bs → Bs → Prop) (hE : ∀ x y, E x y ↔ (x, y) ∈ es) (hb9 : ∀ k, Dist E g m (k + 1) → k ≤ 300) :
    Calls Try.prog 72 #[.map (some bg), .string g, .string m] w fun e w' => (∃ v p, e = .returned v ∧ (p.length ≤ 1000 ∧ ((∃ k, Dist E g m (k + 1) ∧ WayS E m k g p) ∨ ((¬ ∃ n, Dist E g m n) ∧ p = []))) ∧ w'.ownsRow w.heap.size 9 1 v p.length (p.map Value.string)) ∧ Below w.heap.size w w' := by
  obtain ⟨i0, hi, hz0, hz1, hz2⟩ := info_parts info_str
  have q := hide (turned_any lo bg 1000 es tab w hG hes)
  have HG := hide hG
  have HE := hide hE
  have HB9 := hide hb9
  clear hG hes hE hb9
  go_enter Try.func72, Try.ntmps72
  go_wp2_with fail
  refine (unhide q).mono ?_
  rintro e w1 ⟨⟨bg2, es2, tab2, rfl, hG2, hE2, hL2⟩, hb1⟩
  have HE2 := hide hE2
  have q3 := hide (steps_any w.heap.size bg2 1000 es2 tab2 m w1 hG2 hL2 hm)
  have B1 := hide hb1
  clear q hG2 hE2 hL2 hb1
  go_wp2_with fail
  refine (unhide q3).mono ?_
  rintro e w2 ⟨⟨bl, L, rfl, hbl, hK, hD⟩, hb2⟩
  have HD := hide (show ∀ b k, L b = some k ↔ Dist E b m k from fun b k => by
    rw [hD b k]
    exact (dist_congr (fun x y => (unhide HE2 x y).trans (unhide HE y x).symm)).trans (dist_flip (E := E)))
  have B2 := hide (bTr (unhide B1) hb2)
  obtain ⟨W3, hW3⟩ : ∃ W3, W3 = w2.alloc (.cells #[.map (some bl)] 63) := ⟨_, rfl⟩
  have K3 := hide (show KM Try.prog 9 Value.string W3 bl 1000 (intM L) by rw [hW3]; exact hK.kept (World.grownBy_alloc _ _ none) (by simp))
  have R3 := hide (show RowIs W3 w2.heap.size #[.map (some bl)] 63 by rw [hW3]; exact RowIs.new _ _ _)
  have B3 := hide (show Below w.heap.size w W3 by rw [hW3]; exact bAl (unhide B2) _)
  have HW3 := hide hW3.symm
  have r3 := (unhide R3).at (o := 0) (v := .map (some bl)) rfl
  have z3 := (unhide R3).lt
  clear q3 hK hD hb2 B1 HE2 hW3
  cases hL : L g with
  | none =>
    have el := hide (show (intM L g).getD (.int .i64 0) = .int .i64 0 by unfold intM; rw [hL]; rfl)
    have NO := hide (show ¬ ∃ n, Dist E g m n from fun ⟨n, hn⟩ => by have := (unhide HD g n).2 hn; rw [hL] at this; cases this)
    clear hL
    go_wp2_with (first
      | (at_lookup; rw [unhide HW3]; refine wpList_get_km _ kStr rfl _ _ _ rfl _ Try.underlying63 (zeroInt _) bl 1000 _ rfl (unhide K3) g rfl hg _ (unhide el) ?_))
    go_ret
    exact ⟨⟨_, [], rfl, ⟨by simp, .inr ⟨unhide NO, rfl⟩⟩, World.ownsRow_nil _ _ _ _⟩, unhide B3⟩
  | some n =>
    have hd := (unhide HD g n).1 hL
    obtain ⟨k, rfl⟩ : ∃ k, n = k + 1 := ⟨n - 1, by have := hd.1; omega⟩
    have el := hide (show (intM L g).getD (.int .i64 0) = .int .i64 ((k : Int) + 1) by unfold intM; rw [hL]; rfl)
    have hk3 := unhide HB9 k hd
    have HDk := hide hd
    have ek : ((k : Int) + 1 == 0) = false := by simp; omega
    have ej : IntKind.i64.wrap ((k : Int) + 1 - 1) = (k : Int) := by rw [IntKind.wrap_i64]; omega
    obtain ⟨W4, hW4⟩ : ∃ W4, W4 = W3.alloc (.cells #[.string g] 9) := ⟨_, rfl⟩
    obtain ⟨W5, hW5⟩ : ∃ W5, W5 = W4.alloc (.cells #[.int .i64 (k : Int)] 3) := ⟨_, rfl⟩
    have b4 : Below W3.heap.size W3 W4 := by rw [hW4]; exact bAl (Below.refl _ _) _
    have b5 : Below W4.heap.size W4 W5 := by rw [hW5]; exact bAl (Below.refl _ _) _
    have z4 : W4.heap.size = W3.heap.size + 1 := by rw [hW4]; simp
    have K4 := hide ((unhide K3).keepB b4 (unhide K3).lt)
    have r4 := ((unhide R3).keep b4).at (o := 0) (v := .map (some bl)) rfl
    have z34 := ((unhide R3).keep b4).lt
    have K5 := hide ((unhide K4).keepB b5 (unhide K4).lt)
    have R5 := hide (((unhide R3).keep b4).keep b5)
    have Y5 := hide (show RowIs W5 (W3.heap.size + 1) #[.int .i64 (k : Int)] 3 by rw [← z4, hW5]; exact RowIs.new _ _ _)
    have O5 := hide (own_keep (show W4.ownsRow w.heap.size 9 1 (.slice (some ⟨W3.heap.size, 0, none⟩) 1 1) [g].length ([g].map Value.string) by rw [hW4]; exact own_base (own_lit1 W3 g) (unhide B3).size) b5)
    have B5 := hide (bTr (bTr (unhide B3) b4) b5)
    have HW4 := hide hW4.symm
    have HW5 := hide hW5.symm
    have zy5 := hide (show w.heap.size ≤ W3.heap.size + 1 by have := (unhide B3).size; omega)
    have HLg := hide hL
    clear hL hd hW4 hW5 b4 b5 B3
    go_wp2_with (first
      | (at_lookup; rw [unhide HW3]; refine wpList_get_km _ kStr rfl _ _ _ rfl _ Try.underlying63 (zeroInt _) bl 1000 _ rfl (unhide K3) g rfl hg _ (unhide el) ?_)
      | (at_lookup; rw [unhide HW4]; refine wpList_get_km _ kStr rfl _ _ _ rfl _ Try.underlying63 (zeroInt _) bl 1000 _ rfl (unhide K4) g rfl hg _ (unhide el) ?_))
    rw [unhide HW5]
    clear HW3 HW4 HW5 K3 K4 R3 r3 r4 z3 z34 z4 el
    go_loopw [1, 8, 9] (fun vc vo vp wr => ∃ (q by_ : Nat) (c : Bs) (pre : List Bs), vc = .string c ∧ vp = .pointer (some ⟨by_, 0, none⟩) ∧ Hid (wr.ownsRow w.heap.size 9 1 vo (pre ++ [c]).length ((pre ++ [c]).map Value.string)) ∧ Hid (RowIs wr by_ #[.int .i64 (q : Int)] 3) ∧ Hid (RowIs wr w2.heap.size #[.map (some bl)] 63) ∧ Hid (KM Try.prog 9 Value.string wr bl 1000 (intM L)) ∧ Hid (Dist E c m (q + 1) ∧ ∀ p', WayS E m q c p' → WayS E m k g (pre ++ p')) ∧ pre.length + q = k ∧ w.heap.size ≤ by_ ∧ Hid (Below w.heap.size w wr)) (fun _ vo _ _ => 1000 - slLen vo)
    case atStart => exact ⟨k, W3.heap.size + 1, g, [], rfl, rfl, O5, Y5, R5, K5, hide ⟨unhide HDk, fun p' h => h⟩, by simp, unhide zy5, B5⟩
    case round =>
      clear O5 Y5 R5 K5 B5 HDk zy5 ek ej
      obtain ⟨q, by_, c, pre, rfl, rfl, hO, hY, hR, hK, hW, hpl, hby, hB⟩ := hrel
      have y0 := (unhide hY).at (o := 0) (v := .int .i64 (q : Int)) rfl
      have zy := (unhide hY).lt
      have hol : (pre ++ [c]).length ≤ 400 := by simp; omega
      rcases Nat.eq_zero_or_pos q with hq0 | hq0
      · subst hq0
        have FW := hide (show WayS E m k g ((pre ++ [c]) ++ [m]) by
          have := (unhide hW).2 [c, m] rfl
          rw [List.append_assoc]; exact this)
        have DK := hide (show Dist E g m (k + 1) from (unhide HD g (k + 1)).1 (unhide HLg))
        clear hW hY hR hK
        generalize pre ++ [c] = PP at hO hol FW
        go_wp2_with (at_builtin; refine wpList_append_own_at _ rfl _ _ 45 rfl w.heap.size 9 i0 _ 1 16 Try.underlying45 hi hz0 hz1 hz2 rfl (by decide) _ _ _ rfl ((unhide hO).alloc _) ⟨_, 0, none⟩ 1 1 [.string m] rfl rfl (cell_one_at _ _ rfl _ _) (fun x hx => by simp at hx; subst hx; rfl) (by unfold maxLen; omega) (by omega) (by have := (unhide hB).size; simp; omega) ?_; intro v8 w8 hown8 hgrow8 _ _; have O8 := hide hown8; have B8 := hide (below_append (unhide hB) (Nat.le_refl _) (unhide hO) hgrow8); clear hown8 hgrow8)
        go_ret
        refine ⟨⟨_, PP ++ [m], rfl, ⟨by simp; omega, .inl ⟨k, unhide DK, unhide FW⟩⟩, ?_⟩, unhide B8⟩
        rw [List.length_append, List.map_append]; exact unhide O8
      · obtain ⟨q, rfl⟩ : ∃ q', q = q' + 1 := ⟨q - 1, by omega⟩
        obtain ⟨d, hd1, hd2⟩ := (unhide hW).1.next (by omega)
        have hok := (unhide HG).ok c d ((unhide HE c d).1 hd1)
        obtain ⟨b, hb⟩ := Option.isSome_iff_exists.1 (((unhide HG).has c).2 ⟨d, (unhide HE c d).1 hd1⟩)
        have e1 := hide (show (topM tab c).getD (.map none) = Value.map (some b) by simp [topM, hb])
        have GW := (unhide HG).keepB (unhide hB) (Nat.le_refl _)
        have HT := hide GW.top
        have qk := hide (keysSet_any b 1000 (setF es c) wr (GW.kid c b hb) (by omega))
        have hcz := hok.1
        have HD2 := hide (And.intro hd1 hd2)
        have hdz := hok.2
        clear hb GW hok hd1 hd2
        go_wp2_with (at_lookup; refine wpList_get_km _ kStr rfl _ _ _ rfl _ Try.underlying60 (zeroSet _) bg 1000 _ rfl (unhide HT) c rfl hcz _ (unhide e1) ?_)
        refine (unhide qk).mono ?_
        rintro e w6 ⟨⟨vr, r, rfl, hr1, hr2, hr3, hr4⟩, hb6⟩
        have qi := hide (indexWay_any w2.heap.size by_ (isQ L (q + 1)) wr.heap.size wr w6 hb6 hb6.size vr r hr4 (by omega) (fun x hx w' hB' => wayFn_any w2.heap.size by_ bl 1000 (q + 1) L x w' ((hr2 x).1 hx).1 ((unhide hK).keepB hB' (unhide hK).lt) (((unhide hR).keep hB').at rfl) (((unhide hY).keep hB').at rfl)))
        have HR1 := hide hr1
        have HR2 := hide (show ∀ x, x ∈ r ↔ x.size ≤ maxLen ∧ E c x from fun x => by
          rw [hr2 x, unhide HE c x]
          refine and_congr_right fun _ => ⟨fun h => ?_, fun h => setF_isSome h⟩
          obtain ⟨v, hv⟩ := Option.isSome_iff_exists.1 h
          exact (setF_some hv).1)
        have V6 := hide hr4
        have B6 := hide hb6
        clear qk hr1 hr2 hr4 hb6 HT
        go_wp2_with fail
        refine (unhide qi).mono ?_
        rintro e w7 ⟨⟨ix, rfl, hix⟩, hb7⟩
        obtain ⟨j, hj, rfl, hpj, hnj⟩ : ∃ j, ∃ h : j < r.length, ix = (j : Int) ∧ isQ L (q + 1) r[j] = true ∧ ∀ i (hi : i < r.length), i < j → isQ L (q + 1) r[i] = false := by
          rcases hix with h | ⟨_, h⟩
          · exact h
          · have h1 := h d ((unhide HR2 d).2 ⟨hdz, (unhide HD2).1⟩)
            have h2 : isQ L (q + 1) d = true := by unfold isQ; rw [(unhide HD d (q + 1)).2 (unhide HD2).2]; simp
            rw [h2] at h1; cases h1
        have isd : ∀ x, isQ L (q + 1) x = true ↔ Dist E x m (q + 1) := fun x => by
          unfold isQ
          rw [decide_eq_true_iff, ← unhide HD x (q + 1)]
          cases hx : L x with
          | none => simp
          | some z => simp
        have LS := hide (show Lst E c m (q + 1) r[j] from ⟨⟨((unhide HR2 _).1 (List.getElem_mem hj)).2, (isd _).1 hpj⟩, fun c' h1 h2 h3 => by
          have hsz : c'.size ≤ maxLen := ((unhide HG).ok c c' ((unhide HE c c').1 h1)).2
          obtain ⟨i, hi, rfl⟩ := List.getElem_of_mem ((unhide HR2 c').2 ⟨hsz, h1⟩)
          rcases Nat.lt_trichotomy i j with x | x | x
          · have := hnj i hi x
            rw [(isd _).2 h2] at this; cases this
          · subst x; exact cmpB_irr _ h3
          · exact cmpB_irr _ (cmpB_tr _ _ _ h3 ((unhide HR1).lt hi x))⟩)
        obtain ⟨gv, cv, ev, _⟩ := own_some (unhide V6) (by omega)
        subst ev
        have V7 := own_keep (unhide V6) hb7
        have c7 : w7.cell? ⟨gv, j, none⟩ = some (.string r[j]) := by rw [V7.cellAt j (by omega)]; simp [hj]
        have zv : gv < w7.heap.size := (V7.lt gv rfl).2
        have b67 := bTr (unhide B6) hb7
        have O7 := hide (own_keep (unhide hO) b67)
        have Y7 := hide ((unhide hY).keep b67)
        have R7 := hide ((unhide hR).keep b67)
        have K7 := hide ((unhide hK).keepB b67 (unhide hK).lt)
        have B7 := hide (bTr (unhide hB) b67)
        have NW := hide (show Dist E r[j] m (q + 1) ∧ ∀ p', WayS E m q r[j] p' → WayS E m k g ((pre ++ [c]) ++ p') from ⟨(unhide LS).1.2, fun p' hp => by
          have := (unhide hW).2 (c :: p') ⟨r[j], p', unhide LS, hp, rfl⟩
          rw [List.append_assoc]; exact this⟩)
        clear qi hix hb7 hpj hnj isd V7 b67 hO hY hR hK hB hW V6 B6 HR1 HR2 LS HD2 y0 zy hr3
        generalize r[j] = D at c7 NW
        have e12 : ((q + 1 : Nat) : Int) = (q : Int) + 1 := by omega
        rw [e12] at Y7
        have ej2 : IntKind.i64.wrap ((q : Int) + 1 - 1) = (q : Int) := by rw [IntKind.wrap_i64]; omega
        have hpl2 : (pre ++ [c]).length + q = k := by simp; omega
        clear hpl e12
        generalize pre ++ [c] = PP at O7 NW hol hpl2
        have FX := hide (fun (v8 : Value) (w8 : World) (h1 : w8.ownsRow w.heap.size 9 1 v8 (PP.length + 1) (PP.map Value.string ++ [.string D])) (h2 : (w7.alloc (.cells #[.string D] 9)).grownBy w8 u8.ownBlock) => show (RowIs w8 by_ #[.int .i64 ((q : Int) + 1)] 3) ∧ ((w8.alloc (.cells #[.int .i64 (q : Int)] 3)).ownsRow w.heap.size 9 1 v8 (PP ++ [D]).length ((PP ++ [D]).map Value.string) ∧ RowIs (w8.alloc (.cells #[.int .i64 (q : Int)] 3)) w8.heap.size #[.int .i64 (q : Int)] 3 ∧ RowIs (w8.alloc (.cells #[.int .i64 (q : Int)] 3)) w2.heap.size #[.map (some bl)] 63 ∧ KM Try.prog 9 Value.string (w8.alloc (.cells #[.int .i64 (q : Int)] 3)) bl 1000 (intM L) ∧ w.heap.size ≤ w8.heap.size ∧ Below w.heap.size w (w8.alloc (.cells #[.int .i64 (q : Int)] 3))) from by
          have Y8 := row_not (unhide Y7) (unhide O7) (by decide) h2
          have R8 := row_not (unhide R7) (unhide O7) (by decide) h2
          have K8 := ((unhide K7).kept (World.grownBy_alloc w7 (.cells #[.string D] 9) none) (by simp)).kept h2 (fun e => (unhide K7).own_ne (unhide O7) e.symm)
          have B8 := below_append (unhide B7) (Nat.le_refl _) (unhide O7) h2
          refine ⟨Y8, ?_, ?_, ?_, ?_, B8.size, ?_⟩
          · rw [List.length_append, List.map_append]
            exact h1.alloc _
          · exact RowIs.new w8 #[.int .i64 (q : Int)] 3
          · exact R8.keep (bAl (Below.refl _ _) _)
          · exact K8.kept (World.grownBy_alloc w8 _ none) (by simp)
          · exact bAl B8 _)
        go_wp2_with (at_builtin; refine wpList_append_own_at _ rfl _ _ 45 rfl w.heap.size 9 i0 _ 1 16 Try.underlying45 hi hz0 hz1 hz2 rfl (by decide) _ _ _ rfl ((unhide O7).alloc _) ⟨_, 0, none⟩ 1 1 [.string D] rfl rfl (cell_one_at _ _ rfl _ _) (fun x hx => by simp at hx; subst hx; rfl) (by unfold maxLen; omega) (by omega) (by have := (unhide B7).size; simp; omega) ?_; intro v8 w8 hown8 hgrow8 _ _; obtain ⟨k1, k2⟩ := unhide FX _ _ hown8 hgrow8; have F8 := hide k2; have y8 := k1.at (o := 0) (v := .int .i64 ((q : Int) + 1)) rfl; have zy8 := k1.lt; clear hown8 hgrow8 k1 k2)
        obtain ⟨f1, f2, f3, f4, f5, f6⟩ := unhide F8
        have e9 := (own_slLen f1).1
        have e10 := (own_slLen (unhide O7)).1
        exact ⟨⟨q, w8.heap.size, D, PP, rfl, rfl, hide f1, hide f2, hide f3, hide f4, NW, hpl2, f5, hide f6⟩, by rw [e9, e10, List.length_append]; simp; omega⟩

set_option maxHeartbeats 1000000 in
theorem iWayOf_any (a : Option Addr) (len cap : Nat) (l : List NestT) (g m : Bs) (w : World) (hl : len ≤ maxLen) (hs : SlNest w a len l) (hok : ∀ q ∈ l, NestT.Ok q) (h1 : g.size ≤ 1048576) (h2 : m.size ≤ 1048576) :
    Calls Try.prog 39 #[.slice a len cap, .string g, .string m] w fun e w' => (∃ v p, e = .returned v ∧ PWay l g m p ∧ w'.ownsRow w.heap.size 9 1 v p.length (p.map Value.string)) ∧ Below w.heap.size w w' := by
  have q := hide (nestGraph_any a len cap l w hl hs hok)
  have g' : g.size ≤ maxLen := by unfold maxLen; omega
  have m' : m.size ≤ maxLen := by unfold maxLen; omega
  clear hs hok hl
  go_enter Try.func39, Try.ntmps39
  go_wp2_with fail
  refine (unhide q).mono ?_
  rintro e w1 ⟨⟨bg, es, tab, rfl, hG, hE, hL⟩, hb1⟩
  have qw := hide (way_any w.heap.size bg es tab g m w1 hG hL g' m' (EdG l) (fun x y => (hE x y).symm) (fun k hd => by have := dist_le hd; omega))
  have B1 := hide hb1
  clear q hG hE hL hb1
  go_wp2_with fail
  refine (unhide qw).mono ?_
  rintro e w2 ⟨⟨v, p, rfl, hp, ho⟩, hb2⟩
  have FIN := hide (show PWay l g m p ∧ w2.ownsRow w.heap.size 9 1 v p.length (p.map Value.string) from ⟨hp, own_base ho (unhide B1).size⟩)
  have B2 := hide (bTr (unhide B1) hb2)
  clear hp ho hb2 qw B1
  go_wp2_with fail
  go_ret
  exact ⟨⟨v, p, rfl, unhide FIN⟩, unhide B2⟩
end Go.Proofs.Ytakjnbdjjeccoaa
