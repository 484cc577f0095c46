/- spec.RotateRing. -/
import Derived.Test.YtenbliiombjldaaKOk
import Derived.Deep.RegionHeld3
import Derived.Deep.AppendLies
namespace Go.Proofs.Ytenbliiombjldaa
open Go.RowKit
set_option maxRecDepth 20000
theorem own_baseR {w : World} {base base' e size n : Nat} {v : Value} {xs : List Value} (h : w.ownsRow base e size v n xs) (hb : base' ≤ base) : w.ownsRow base' e size v n xs := by
  refine ⟨h.1, h.2.imp id ?_⟩
  rintro ⟨g, cap, cur, r1, r2, r3⟩
  exact ⟨g, cap, cur, r1, Nat.le_trans hb r2, r3⟩
theorem own_setR {w : World} {base e size n b o : Nat} {v u : Value} {xs : List Value} (h : w.ownsRow base e size v n xs) (hne : ∀ g, v.ownBlock = some g → g ≠ b) : (w.setCell ⟨b, o, none⟩ u).ownsRow base e size v n xs := by
  refine ⟨h.1, ?_⟩
  rcases h.2 with h2 | ⟨g, cap, cur, hv, h3, h4, h5⟩
  · exact .inl h2
  · exact .inr ⟨g, cap, cur, hv, h3, by rw [heap_setCell_other w ⟨b, o, none⟩ g u (hne g (by rw [hv]; rfl))]; exact h4, h5⟩
theorem KK.set {w0 w : World} {v u : Value} {O : List KeyT} {b o : Nat} (h : KK w0 w v O) (hb : w0.heap.size ≤ b) (hne : ∀ g, v.ownBlock = some g → g ≠ b) : KK w0 (w.setCell ⟨b, o, none⟩ u) v O := ⟨own_setR h.out hne, h.below.setCell hb u⟩
theorem ne_of_grown {v v' : Value} {n b : Nat} (hat : v'.ownBlock = v.ownBlock ∨ v'.ownBlock = some n) (h : ∀ g, v.ownBlock = some g → g ≠ b) (hb : b < n) : ∀ g, v'.ownBlock = some g → g ≠ b := by
  intro g hg
  rcases hat with h1 | h1
  · exact h g (h1 ▸ hg)
  · rw [h1] at hg; cases hg; omega
theorem row_farK {w w' : World} {o : Obj} {b : Nat} {C : Array Value} {T : TypeId} {row : Option Nat} (h : RowIs w b C T) (hg : (w.alloc o).grownBy w' row) (hne : row ≠ some b) : RowIs w' b C T := by
  have hl := h.lt
  have h2 : RowIs (w.alloc o) b C T := by
    have := (bAl (Below.refl w.heap.size w) o).block b h.lt
    unfold RowIs at *; rw [this]; exact h
  unfold RowIs at *
  rw [hg.block b (by simp; omega) (fun e => hne e.symm)]; exact h2
theorem l15Lesser_any (a b : Int) (w : World) : Calls Try.prog 15 #[.int .i64 a, .int .i64 b] w fun e w' => e = .returned (.int .i64 (min a b)) ∧ w = w' := by
  go_enter Try.func15, Try.ntmps15
  go_wp2
  all_goals go_ret
  all_goals exact ⟨congrArg (fun x => Ending.returned (.int .i64 x)) (by omega), rfl⟩
/-- The new key's box. -/
def BoxN (w : World) (b : Nat) (f0 : ByteArray) (f1 f2 f3 : Int) : Prop := RowIs w b #[.string f0, .int .i64 f1, .int .i64 f2, .int .i64 f3] 30
set_option maxHeartbeats 8000000 in
theorem sRot_any (a : Option Addr) (len cap : Nat) (l : List KeyT) (f0 : ByteArray) (f1 f2 f3 t g : Int) (w : World) (hl : len ≤ maxLen) (hs : SlKey w a len l) (hok : ∀ q ∈ l, KeyT.Ok q) (hf : f0.size ≤ maxLen) :
    Calls Try.prog 6 #[.slice a len cap, .agg #[.string f0, .int .i64 f1, .int .i64 f2, .int .i64 f3], .int .i64 t, .int .i64 g] w fun e w' => (∃ v r, e = .returned v ∧ RotIs l ⟨f0, f1, f2, f3⟩ t g r ∧ w'.ownsRow w.heap.size 30 4 v r.length (KeysV r)) ∧ Below w.heap.size w w' := by
  obtain ⟨i0, hi, hz0, hz1, hz2⟩ := info_partsK info_Key
  obtain ⟨W, hW⟩ : ∃ W, W = w.alloc (.cells #[.string f0, .int .i64 f1, .int .i64 f2, .int .i64 f3] 30) := ⟨_, rfl⟩
  have B0 := hide (show Below w.heap.size w W by rw [hW]; exact bAl (Below.refl _ _) _)
  have R0 := hide (show RowIs W w.heap.size #[.string f0, .int .i64 f1, .int .i64 f2, .int .i64 f3] 30 by rw [hW]; exact RowIs.new _ _ _)
  have HS := hide (hs.keep (unhide B0))
  have HLL := hide hs.1
  have ZB := hide (show w.heap.size < W.heap.size by rw [hW]; simp)
  have HW := hide hW.symm
  have q0 := hide (fun (hs : SlKey W a len l) => sGoodRing_w a len cap l W hl hs (fun q h => (hok q h).o0))
  have ql := hide (fun (L : List KeyT) (a : Option Addr) (c : Nat) (w : World) (h : L.length ≤ maxLen) (hs : SlKey w a L.length L) (ok : ∀ q ∈ L, q.f0.size ≤ maxLen) => sGoodRing_w a L.length c L w h hs ok)
  have HO := hide (fun q h => (hok q h).o0)
  have HF := hide hf
  clear hW hs hl hok hf
  go_enter Try.func6, Try.ntmps6
  go_wp2_with fail
  rw [unhide HW]
  refine (unhide q0 (unhide HS)).mono ?_
  rintro e w1 ⟨⟨b, rfl, hb⟩, hb1⟩
  have HB := hide hb
  have B1 := hide hb1
  clear hb hb1 q0 HW
  cases b
  · go_wp2_with fail
    go_ret
    exact ⟨⟨_, [], rfl, RotIs.bad (fun h => by have := (unhide HB).2 h.1; cases this), World.ownsRow_nil _ _ _ _⟩, bTr (unhide B0) ((unhide B1).mono (by have := unhide ZB; omega))⟩
  have HR := hide ((unhide HB).1 (by trivial))
  clear HB
  by_cases t0 : 0 ≤ t
  case neg =>
    go_wp2_with fail
    go_ret
    exact ⟨⟨_, [], rfl, RotIs.bad (fun h => by have := h.2; omega), World.ownsRow_nil _ _ _ _⟩, bTr (unhide B0) ((unhide B1).mono (by have := unhide ZB; omega))⟩
  by_cases t1 : t ≤ 100000000000
  case neg =>
    go_wp2_with fail
    go_ret
    exact ⟨⟨_, [], rfl, RotIs.bad (fun h => by have := h.2; omega), World.ownsRow_nil _ _ _ _⟩, bTr (unhide B0) ((unhide B1).mono (by have := unhide ZB; omega))⟩
  by_cases g0 : 0 ≤ g
  case neg =>
    go_wp2_with fail
    go_ret
    exact ⟨⟨_, [], rfl, RotIs.bad (fun h => by have := h.2; omega), World.ownsRow_nil _ _ _ _⟩, bTr (unhide B0) ((unhide B1).mono (by have := unhide ZB; omega))⟩
  by_cases g1 : g ≤ 100000000000
  case neg =>
    go_wp2_with fail
    go_ret
    exact ⟨⟨_, [], rfl, RotIs.bad (fun h => by have := h.2; omega), World.ownsRow_nil _ _ _ _⟩, bTr (unhide B0) ((unhide B1).mono (by have := unhide ZB; omega))⟩
  have OK := hide (show RotOk l t g from ⟨unhide HR, ⟨t0, t1⟩, g0, g1⟩)
  have L10 : len ≤ 10 := by have h1 := (unhide HR).1; have h2 := unhide HLL; omega
  have K0 := hide (show KK W w1 (.slice none 0 0) [] from ⟨World.ownsRow_nil _ _ _ _, unhide B1⟩)
  have I0 := hide (RotI.start l ⟨f0, f1, f2, f3⟩ t (t + g))
  clear B1
  go_wp2_with fail
  go_loopw [9, 10, 34] (fun v p i wr => ∃ (k : Nat) (put : Bool) (O : List KeyT), k ≤ len ∧ i = .int .i64 k ∧ p = .bool put ∧ Hid (RotI l ⟨f0, f1, f2, f3⟩ t (t + g) k put O) ∧ Hid (KK W wr v O)) (fun _ _ i _ => len - (Go.RowKit.intOf i).toNat)
  case atStart => exact ⟨0, false, [], Nat.zero_le _, rfl, rfl, I0, K0⟩
  case round =>
    clear K0 I0
    obtain ⟨k, put, O, hk, rfl, rfl, hI, hK⟩ := hrel
    have RB := hide ((unhide R0).keep (unhide hK).below)
    by_cases hlt : k < len
    case neg =>
      -- END
      have hle : l.length ≤ k := by have := unhide HLL; omega
      have LO : O.length ≤ 11 := by have := (unhide hI).len (by have := unhide HLL; omega); omega
      cases put
      · have hE := hide ((unhide hI).end0 hle (unhide HR))
        have n0 := (unhide RB).at (o := 0) (v := .string f0) rfl
        have n1 := (unhide RB).at (o := 1) (v := .int .i64 f1) rfl
        have n2 := (unhide RB).at (o := 2) (v := .int .i64 f2) rfl
        have n3 := (unhide RB).at (o := 3) (v := .int .i64 f3) rfl
        have zn := (unhide RB).lt
        have zw := (unhide hK).below.size
        go_wp2_with (at_builtin; refine wpList_append_own_at _ rfl _ _ 27 rfl W.heap.size 30 i0 _ 4 40 Try.underlying27 hi hz0 hz1 hz2 rfl (by decide) _ _ _ rfl ((unhide hK).out.alloc _) ⟨_, 0, none⟩ 1 1 [.string f0, .int .i64 f1, .int .i64 f2, .int .i64 f3] rfl rfl (cell_newK _ _ rfl _ _ _ rfl) (fun x hx => by simp at hx; rcases hx with rfl | rfl | rfl | rfl <;> rfl) (by unfold maxLen; omega) (by omega) (by first | omega | (simp; omega)) ?_; intro v5 w5 hown hgrow _ hat; have K4 := hide ((unhide hK).app (c := ⟨f0, f1, f2, f3⟩) hown hgrow); clear hown hgrow hat n0 n1 n2 n3 zn)
        obtain ⟨L, hL⟩ : ∃ L, L = O ++ [⟨f0, f1, f2, f3⟩] := ⟨_, rfl⟩
        rw [← hL] at hE K4
        have LL : L.length ≤ 12 := by rw [hL]; (try simp); omega
        have MEM := hide (show ∀ q ∈ L, q.f0.size ≤ maxLen from fun q hq => by
          rcases List.mem_append.1 ((unhide hE).1.mem_iff.1 hq) with h | h
          · obtain ⟨x, hx, ex⟩ := kpt_mem h
            rw [ex]; exact unhide HO x hx
          · simp at h; subst h; exact unhide HF)
        clear hL
        obtain ⟨aL, cL, rfl, hsL⟩ := own_Key (unhide K4).out
        have HSL := hide hsL
        clear hsL
        refine (unhide ql L aL cL _ (by unfold maxLen; omega) (unhide HSL) (unhide MEM)).mono ?_
        rintro e w6 ⟨⟨b, rfl, hb⟩, hb6⟩
        have HB := hide hb
        have K6 := hide ((unhide K4).keep hb6)
        clear hb hb6 K4 HSL MEM
        cases b
        · go_wp2_with fail
          go_ret
          exact ⟨⟨_, [], rfl, RotIs.no (unhide hE).1 (unhide hE).2 (fun h => by have := (unhide HB).2 h; cases this), World.ownsRow_nil _ _ _ _⟩, bTr (unhide B0) ((unhide K6).below.mono (by have := unhide ZB; omega))⟩
        · go_wp2_with fail
          go_ret
          exact ⟨⟨_, L, rfl, RotIs.yes (unhide OK) (unhide hE).1 ((unhide HB).1 (by trivial)), own_baseR (unhide K6).out (by have := unhide ZB; omega)⟩, bTr (unhide B0) ((unhide K6).below.mono (by have := unhide ZB; omega))⟩
      · have hE := hide ((unhide hI).end1 hle (unhide HR))
        have K4 := hK
        go_wp2_with fail
        obtain ⟨L, hL⟩ : ∃ L, L = O := ⟨_, rfl⟩
        rw [← hL] at hE K4
        have LL : L.length ≤ 12 := by rw [hL]; (try simp); omega
        have MEM := hide (show ∀ q ∈ L, q.f0.size ≤ maxLen from fun q hq => by
          rcases List.mem_append.1 ((unhide hE).1.mem_iff.1 hq) with h | h
          · obtain ⟨x, hx, ex⟩ := kpt_mem h
            rw [ex]; exact unhide HO x hx
          · simp at h; subst h; exact unhide HF)
        clear hL
        obtain ⟨aL, cL, rfl, hsL⟩ := own_Key (unhide K4).out
        have HSL := hide hsL
        clear hsL
        refine (unhide ql L aL cL _ (by unfold maxLen; omega) (unhide HSL) (unhide MEM)).mono ?_
        rintro e w6 ⟨⟨b, rfl, hb⟩, hb6⟩
        have HB := hide hb
        have K6 := hide ((unhide K4).keep hb6)
        clear hb hb6 K4 HSL MEM
        cases b
        · go_wp2_with fail
          go_ret
          exact ⟨⟨_, [], rfl, RotIs.no (unhide hE).1 (unhide hE).2 (fun h => by have := (unhide HB).2 h; cases this), World.ownsRow_nil _ _ _ _⟩, bTr (unhide B0) ((unhide K6).below.mono (by have := unhide ZB; omega))⟩
        · go_wp2_with fail
          go_ret
          exact ⟨⟨_, L, rfl, RotIs.yes (unhide OK) (unhide hE).1 ((unhide HB).1 (by trivial)), own_baseR (unhide K6).out (by have := unhide ZB; omega)⟩, bTr (unhide B0) ((unhide K6).below.mono (by have := unhide ZB; omega))⟩
    have hk' : k < l.length := by have := unhide HLL; omega
    obtain ⟨b, off, rfl, hrow⟩ := ((unhide HS).keep (unhide hK).below).at hlt
    have c0 := hrow.c0 k hk'
    have c1 := hrow.c1 k hk'
    have c2 := hrow.c2 k hk'
    have c3 := hrow.c3 k hk'
    have zk := hrow.z
    have LO : O.length ≤ 11 := by have := (unhide hI).len (by have := unhide HLL; omega); omega
    have ZR := hide (unhide hK).below.size
    have NB := hide (show ∀ g, Value.ownBlock u9 = some g → g ≠ wr.heap.size from fun g h e => by have := ((unhide hK).out.lt g h).2; omega)
    have HF0 := unhide HF
    clear hrow
    cases put
    · have NX1 := hide (fun hc => (unhide hI).put hk' hc)
      have NX2 := hide (fun hc => (unhide hI).step0 hk' hc)
      clear hI
      generalize l[k] = A at c0 c1 c2 c3 NX1 NX2
      obtain ⟨p0, p1, p2, p3⟩ := A
      simp only at c0 c1 c2 c3 NX1 NX2
      have qc := hide (fun w => cmpText_any f0 p0 w (unhide HF))
      obtain ⟨cc, hcc⟩ : ∃ cc, cc = cmpT f0.data.toList p0.data.toList := ⟨_, rfl⟩
      rw [← hcc] at qc
      have HC1 := hide (show cc ≤ 0 → cmpK ⟨f0, f1, f2, f3⟩ ⟨p0, p1, p2, p3⟩ ≤ 0 from fun h => by unfold cmpK; rw [← hcc]; exact h)
      have HC2 := hide (show ¬ cc ≤ 0 → ¬ cmpK ⟨f0, f1, f2, f3⟩ ⟨p0, p1, p2, p3⟩ ≤ 0 from fun h => by unfold cmpK; rw [← hcc]; exact h)
      clear hcc
      obtain ⟨W2, hW2⟩ : ∃ W2, W2 = wr.alloc (.cells #[.string p0, .int .i64 p1, .int .i64 p2, .int .i64 p3] 30) := ⟨_, rfl⟩
      have bW2 : Below wr.heap.size wr W2 := by rw [hW2]; exact bAl (Below.refl _ _) _
      have R2 := hide (show RowIs W2 wr.heap.size #[.string p0, .int .i64 p1, .int .i64 p2, .int .i64 p3] 30 by rw [hW2]; exact RowIs.new _ _ _)
      have RB2 := hide ((unhide RB).keep bW2)
      have K2 := hide ((unhide hK).keep bW2)
      have HW2 := hide hW2.symm
      clear hW2 bW2 hK
      go_upto_region 8 with fail
      rw [unhide HW2]
      clear c0 c1 c2 c3 zk HW2
      have n0 := (unhide RB2).at (o := 0) (v := .string f0) rfl
      have x0 := (unhide R2).at (o := 0) (v := .string p0) rfl
      have zn := (unhide RB2).lt
      have zx := (unhide R2).lt
      go_wp2_with fail
      refine (unhide qc _).mono ?_
      rintro e w3 ⟨rfl, hb3⟩
      have R3 := hide ((unhide R2).keep hb3)
      have RB3 := hide ((unhide RB2).keep hb3)
      have K3 := hide ((unhide K2).keep hb3)
      clear hb3 R2 RB2 K2 qc n0 x0 zn zx RB
      by_cases hc : cc ≤ 0
      · have NX := hide (unhide NX1 (unhide HC1 hc))
        clear NX1 NX2 HC1 HC2
        have n0 := (unhide RB3).at (o := 0) (v := .string f0) rfl
        have n1 := (unhide RB3).at (o := 1) (v := .int .i64 f1) rfl
        have n2 := (unhide RB3).at (o := 2) (v := .int .i64 f2) rfl
        have n3 := (unhide RB3).at (o := 3) (v := .int .i64 f3) rfl
        have zn := (unhide RB3).lt
        have zw := (unhide K3).below.size
        go_upto_region 11 with (at_builtin; refine wpList_append_own_at _ rfl _ _ 27 rfl W.heap.size 30 i0 _ 4 40 Try.underlying27 hi hz0 hz1 hz2 rfl (by decide) _ _ _ rfl ((unhide K3).out.alloc _) ⟨_, 0, none⟩ 1 1 [.string f0, .int .i64 f1, .int .i64 f2, .int .i64 f3] rfl rfl (cell_newK _ _ rfl _ _ _ rfl) (fun x hx => by simp at hx; rcases hx with rfl | rfl | rfl | rfl <;> rfl) (by unfold maxLen; omega) (by omega) (by first | omega | (simp; omega)) ?_; intro v5 w5 hown hgrow _ hat; have R4 := hide (row_farK (unhide R3) hgrow (by intro e; exact unhide NB _ e rfl)); have K4 := hide ((unhide K3).app (c := ⟨f0, f1, f2, f3⟩) hown hgrow); have NE4 := hide (ne_of_grown hat (unhide NB) (by have := (unhide R3).lt; simp; omega)); clear hown hgrow hat n0 n1 n2 n3 zn)
        have LO4 : (O ++ [(⟨f0, f1, f2, f3⟩ : KeyT)]).length ≤ 12 := by simp; omega
        generalize O ++ [(⟨f0, f1, f2, f3⟩ : KeyT)] = O4 at LO4 K4 NX
        clear LO
        have LO := LO4
        clear LO4
        by_cases s1 : p3 < t
        · have N1 := hide (unhide NX O4 (fun h => absurd h (by omega)) (fun _ => rfl))
          have x0 := (unhide R4).at (o := 0) (v := .string p0) rfl
          have x1 := (unhide R4).at (o := 1) (v := .int .i64 p1) rfl
          have x2 := (unhide R4).at (o := 2) (v := .int .i64 p2) rfl
          have x3 := (unhide R4).at (o := 3) (v := .int .i64 p3) rfl
          have zx := (unhide R4).lt
          have fx := (unhide R4).froz 3
          have d1 : decide (p3 < t) = true := decide_eq_true s1
          clear s1 NX
          go_wp2_with fail
          exact ⟨⟨k + 1, true, O4, by omega, by go_num, rfl, N1, K4⟩, by simp [Go.RowKit.intOf]; omega⟩
        by_cases s2 : t + g < p2
        · have N1 := hide (unhide NX O4 (fun h => absurd h (by omega)) (fun _ => rfl))
          have x0 := (unhide R4).at (o := 0) (v := .string p0) rfl
          have x1 := (unhide R4).at (o := 1) (v := .int .i64 p1) rfl
          have x2 := (unhide R4).at (o := 2) (v := .int .i64 p2) rfl
          have x3 := (unhide R4).at (o := 3) (v := .int .i64 p3) rfl
          have zx := (unhide R4).lt
          have fx := (unhide R4).froz 3
          clear NX
          go_wp2_with fail
          exact ⟨⟨k + 1, true, O4, by omega, by go_num, rfl, N1, K4⟩, by simp [Go.RowKit.intOf]; omega⟩
        have N1 := hide (unhide NX (O4 ++ [⟨p0, p1, p2, min p3 (t + g)⟩]) (fun _ => rfl) (fun h => absurd ⟨by omega, by omega⟩ h))
        have x0 := (unhide R4).at (o := 0) (v := .string p0) rfl
        have x1 := (unhide R4).at (o := 1) (v := .int .i64 p1) rfl
        have x2 := (unhide R4).at (o := 2) (v := .int .i64 p2) rfl
        have x3 := (unhide R4).at (o := 3) (v := .int .i64 p3) rfl
        have zx := (unhide R4).lt
        have fx := (unhide R4).froz 3
        clear NX
        go_upto_region 13 with (go_at_call 15; refine (l15Lesser_any _ _ _).mono ?_; rintro e w' ⟨rfl, rfl⟩)
        obtain ⟨X, hX⟩ : ∃ X, X = World.setCell w5 ⟨wr.heap.size, 3, none⟩ (.int .i64 (min p3 (t + g))) := ⟨_, rfl⟩
        have RX := show RowIs X wr.heap.size #[.string p0, .int .i64 p1, .int .i64 p2, .int .i64 (min p3 (t + g))] 30 by rw [hX]; exact (unhide R4).set 3 _
        have KX := hide (show KK W X v5 O4 by rw [hX]; exact (unhide K4).set (unhide ZR) (unhide NE4))
        rw [← hX]
        have z0 := RX.at (o := 0) (v := .string p0) rfl
        have z1 := RX.at (o := 1) (v := .int .i64 p1) rfl
        have z2 := RX.at (o := 2) (v := .int .i64 p2) rfl
        have z3 := RX.at (o := 3) (v := .int .i64 (min p3 (t + g))) rfl
        have zz := RX.lt
        have zw := (unhide KX).below.size
        clear hX RX x0 x1 x2 x3 zx fx
        go_wp2_with (at_builtin; refine wpList_append_own_at _ rfl _ _ 27 rfl W.heap.size 30 i0 _ 4 40 Try.underlying27 hi hz0 hz1 hz2 rfl (by decide) _ _ _ rfl ((unhide KX).out.alloc _) ⟨_, 0, none⟩ 1 1 [.string p0, .int .i64 p1, .int .i64 p2, .int .i64 (min p3 (t + g))] rfl rfl (cell_newK _ _ rfl _ _ _ rfl) (fun x hx => by simp at hx; rcases hx with rfl | rfl | rfl | rfl <;> rfl) (by unfold maxLen; omega) (by omega) (by first | omega | (simp; omega)) ?_; intro v5 w5 hown hgrow _ hat; have K5 := hide ((unhide KX).app (c := ⟨p0, p1, p2, min p3 (t + g)⟩) hown hgrow); clear hown hgrow hat)
        exact ⟨⟨k + 1, true, _, by omega, by go_num, rfl, N1, K5⟩, by simp [Go.RowKit.intOf]; omega⟩
      · have NX := hide (unhide NX2 (unhide HC2 (by omega)))
        clear NX1 NX2 HC1 HC2
        by_cases s1 : p3 < t
        · have N1 := hide (unhide NX O (fun h => absurd h (by omega)) (fun _ => rfl))
          have x0 := (unhide R3).at (o := 0) (v := .string p0) rfl
          have x1 := (unhide R3).at (o := 1) (v := .int .i64 p1) rfl
          have x2 := (unhide R3).at (o := 2) (v := .int .i64 p2) rfl
          have x3 := (unhide R3).at (o := 3) (v := .int .i64 p3) rfl
          have zx := (unhide R3).lt
          have fx := (unhide R3).froz 3
          have d1 : decide (p3 < t) = true := decide_eq_true s1
          clear s1 NX
          go_wp2_with fail
          exact ⟨⟨k + 1, false, O, by omega, by go_num, rfl, N1, K3⟩, by simp [Go.RowKit.intOf]; omega⟩
        by_cases s2 : t + g < p2
        · have N1 := hide (unhide NX O (fun h => absurd h (by omega)) (fun _ => rfl))
          have x0 := (unhide R3).at (o := 0) (v := .string p0) rfl
          have x1 := (unhide R3).at (o := 1) (v := .int .i64 p1) rfl
          have x2 := (unhide R3).at (o := 2) (v := .int .i64 p2) rfl
          have x3 := (unhide R3).at (o := 3) (v := .int .i64 p3) rfl
          have zx := (unhide R3).lt
          have fx := (unhide R3).froz 3
          clear NX
          go_wp2_with fail
          exact ⟨⟨k + 1, false, O, by omega, by go_num, rfl, N1, K3⟩, by simp [Go.RowKit.intOf]; omega⟩
        have N1 := hide (unhide NX (O ++ [⟨p0, p1, p2, min p3 (t + g)⟩]) (fun _ => rfl) (fun h => absurd ⟨by omega, by omega⟩ h))
        have x0 := (unhide R3).at (o := 0) (v := .string p0) rfl
        have x1 := (unhide R3).at (o := 1) (v := .int .i64 p1) rfl
        have x2 := (unhide R3).at (o := 2) (v := .int .i64 p2) rfl
        have x3 := (unhide R3).at (o := 3) (v := .int .i64 p3) rfl
        have zx := (unhide R3).lt
        have fx := (unhide R3).froz 3
        clear NX
        go_upto_region 13 with (go_at_call 15; refine (l15Lesser_any _ _ _).mono ?_; rintro e w' ⟨rfl, rfl⟩)
        obtain ⟨X, hX⟩ : ∃ X, X = World.setCell w3 ⟨wr.heap.size, 3, none⟩ (.int .i64 (min p3 (t + g))) := ⟨_, rfl⟩
        have RX := show RowIs X wr.heap.size #[.string p0, .int .i64 p1, .int .i64 p2, .int .i64 (min p3 (t + g))] 30 by rw [hX]; exact (unhide R3).set 3 _
        have KX := hide (show KK W X u9 O by rw [hX]; exact (unhide K3).set (unhide ZR) (unhide NB))
        rw [← hX]
        have z0 := RX.at (o := 0) (v := .string p0) rfl
        have z1 := RX.at (o := 1) (v := .int .i64 p1) rfl
        have z2 := RX.at (o := 2) (v := .int .i64 p2) rfl
        have z3 := RX.at (o := 3) (v := .int .i64 (min p3 (t + g))) rfl
        have zz := RX.lt
        have zw := (unhide KX).below.size
        clear hX RX x0 x1 x2 x3 zx fx
        go_wp2_with (at_builtin; refine wpList_append_own_at _ rfl _ _ 27 rfl W.heap.size 30 i0 _ 4 40 Try.underlying27 hi hz0 hz1 hz2 rfl (by decide) _ _ _ rfl ((unhide KX).out.alloc _) ⟨_, 0, none⟩ 1 1 [.string p0, .int .i64 p1, .int .i64 p2, .int .i64 (min p3 (t + g))] rfl rfl (cell_newK _ _ rfl _ _ _ rfl) (fun x hx => by simp at hx; rcases hx with rfl | rfl | rfl | rfl <;> rfl) (by unfold maxLen; omega) (by omega) (by first | omega | (simp; omega)) ?_; intro v5 w5 hown hgrow _ hat; have K5 := hide ((unhide KX).app (c := ⟨p0, p1, p2, min p3 (t + g)⟩) hown hgrow); clear hown hgrow hat)
        exact ⟨⟨k + 1, false, _, by omega, by go_num, rfl, N1, K5⟩, by simp [Go.RowKit.intOf]; omega⟩
    · have NX := hide ((unhide hI).step1 hk')
      clear hI
      generalize l[k] = A at c0 c1 c2 c3 NX
      obtain ⟨p0, p1, p2, p3⟩ := A
      simp only at c0 c1 c2 c3 NX
      obtain ⟨W2, hW2⟩ : ∃ W2, W2 = wr.alloc (.cells #[.string p0, .int .i64 p1, .int .i64 p2, .int .i64 p3] 30) := ⟨_, rfl⟩
      have bW2 : Below wr.heap.size wr W2 := by rw [hW2]; exact bAl (Below.refl _ _) _
      have R2 := hide (show RowIs W2 wr.heap.size #[.string p0, .int .i64 p1, .int .i64 p2, .int .i64 p3] 30 by rw [hW2]; exact RowIs.new _ _ _)
      have RB2 := hide ((unhide RB).keep bW2)
      have K2 := hide ((unhide hK).keep bW2)
      have HW2 := hide hW2.symm
      clear hW2 bW2 hK
      go_upto_region 8 with fail
      rw [unhide HW2]
      clear c0 c1 c2 c3 zk HW2 RB RB2
      by_cases s1 : p3 < t
      · have N1 := hide (unhide NX O (fun h => absurd h (by omega)) (fun _ => rfl))
        have x0 := (unhide R2).at (o := 0) (v := .string p0) rfl
        have x1 := (unhide R2).at (o := 1) (v := .int .i64 p1) rfl
        have x2 := (unhide R2).at (o := 2) (v := .int .i64 p2) rfl
        have x3 := (unhide R2).at (o := 3) (v := .int .i64 p3) rfl
        have zx := (unhide R2).lt
        have fx := (unhide R2).froz 3
        have d1 : decide (p3 < t) = true := decide_eq_true s1
        clear s1 NX
        go_wp2_with fail
        exact ⟨⟨k + 1, true, O, by omega, by go_num, rfl, N1, K2⟩, by simp [Go.RowKit.intOf]; omega⟩
      by_cases s2 : t + g < p2
      · have N1 := hide (unhide NX O (fun h => absurd h (by omega)) (fun _ => rfl))
        have x0 := (unhide R2).at (o := 0) (v := .string p0) rfl
        have x1 := (unhide R2).at (o := 1) (v := .int .i64 p1) rfl
        have x2 := (unhide R2).at (o := 2) (v := .int .i64 p2) rfl
        have x3 := (unhide R2).at (o := 3) (v := .int .i64 p3) rfl
        have zx := (unhide R2).lt
        have fx := (unhide R2).froz 3
        clear NX
        go_wp2_with fail
        exact ⟨⟨k + 1, true, O, by omega, by go_num, rfl, N1, K2⟩, by simp [Go.RowKit.intOf]; omega⟩
      have N1 := hide (unhide NX (O ++ [⟨p0, p1, p2, min p3 (t + g)⟩]) (fun _ => rfl) (fun h => absurd ⟨by omega, by omega⟩ h))
      have x0 := (unhide R2).at (o := 0) (v := .string p0) rfl
      have x1 := (unhide R2).at (o := 1) (v := .int .i64 p1) rfl
      have x2 := (unhide R2).at (o := 2) (v := .int .i64 p2) rfl
      have x3 := (unhide R2).at (o := 3) (v := .int .i64 p3) rfl
      have zx := (unhide R2).lt
      have fx := (unhide R2).froz 3
      clear NX
      go_upto_region 13 with (go_at_call 15; refine (l15Lesser_any _ _ _).mono ?_; rintro e w' ⟨rfl, rfl⟩)
      obtain ⟨X, hX⟩ : ∃ X, X = World.setCell W2 ⟨wr.heap.size, 3, none⟩ (.int .i64 (min p3 (t + g))) := ⟨_, rfl⟩
      have RX := show RowIs X wr.heap.size #[.string p0, .int .i64 p1, .int .i64 p2, .int .i64 (min p3 (t + g))] 30 by rw [hX]; exact (unhide R2).set 3 _
      have KX := hide (show KK W X u9 O by rw [hX]; exact (unhide K2).set (unhide ZR) (unhide NB))
      rw [← hX]
      have z0 := RX.at (o := 0) (v := .string p0) rfl
      have z1 := RX.at (o := 1) (v := .int .i64 p1) rfl
      have z2 := RX.at (o := 2) (v := .int .i64 p2) rfl
      have z3 := RX.at (o := 3) (v := .int .i64 (min p3 (t + g))) rfl
      have zz := RX.lt
      have zw := (unhide KX).below.size
      clear hX RX x0 x1 x2 x3 zx fx
      go_wp2_with (at_builtin; refine wpList_append_own_at _ rfl _ _ 27 rfl W.heap.size 30 i0 _ 4 40 Try.underlying27 hi hz0 hz1 hz2 rfl (by decide) _ _ _ rfl ((unhide KX).out.alloc _) ⟨_, 0, none⟩ 1 1 [.string p0, .int .i64 p1, .int .i64 p2, .int .i64 (min p3 (t + g))] rfl rfl (cell_newK _ _ rfl _ _ _ rfl) (fun x hx => by simp at hx; rcases hx with rfl | rfl | rfl | rfl <;> rfl) (by unfold maxLen; omega) (by omega) (by first | omega | (simp; omega)) ?_; intro v5 w5 hown hgrow _ hat; have K5 := hide ((unhide KX).app (c := ⟨p0, p1, p2, min p3 (t + g)⟩) hown hgrow); clear hown hgrow hat)
      exact ⟨⟨k + 1, true, _, by omega, by go_num, rfl, N1, K5⟩, by simp [Go.RowKit.intOf]; omega⟩
end Go.Proofs.Ytenbliiombjldaa
