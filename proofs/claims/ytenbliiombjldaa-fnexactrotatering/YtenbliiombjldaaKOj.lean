/- impl.RotateRing. -/
import Derived.Test.YtenbliiombjldaaKOi
import Derived.Test.YtenbliiombjldaaKOs
namespace Go.Proofs.Ytenbliiombjldaa
open Go.RowKit
set_option maxRecDepth 20000

theorem row_far2 {w w' : World} {b B e size n : Nat} {v : Value} {xs : List Value} {C : Array Value} {T : TypeId} (h : RowIs w b C T) (hg : w.grownBy w' v.ownBlock) (ho : w.ownsRow B e size v n xs) (hlt : b < B) : RowIs w' b C T := by
  have hl := h.lt
  unfold RowIs at *
  rw [hg.block b hl (fun e => by have := (ho.lt b e.symm).1; omega)]; exact h
theorem out_app {w' : World} {b g cp n : Nat} {O : List KeyT} {c : KeyT} (hn : n = O.length) (h : w'.ownsRow b 30 4 (.slice (some ⟨g, 0, none⟩) (n + 1) cp) (n + 1) (KeysV O ++ encKey c)) :
    w'.ownsRow b 30 4 (.slice (some ⟨g, 0, none⟩) (O ++ [c]).length cp) (O ++ [c]).length (KeysV (O ++ [c])) := by
  subst hn
  rw [List.length_append, KeysV_snoc]; exact h
theorem undrewR {w w' : World} (h : Below w.drew.heap.size w.drew w') : Below w.heap.size w w' := bTr ((Below.refl _ _).drew) h
set_option maxHeartbeats 8000000 in
theorem iRot_any (a : Option Addr) (len cap : Nat) (l : List KeyT) (f0 : ByteArray) (f1 f2 f3 t g : Int) (w : World) (hl : len ≤ maxLen) (hs : SlKey w a len l) (hok : ∀ q ∈ l, KeyT.Ok q) (hf : f0.size ≤ maxLen) :
    Calls Try.prog 9 #[.slice a len cap, .agg #[.string f0, .int .i64 f1, .int .i64 f2, .int .i64 f3], .int .i64 t, .int .i64 g] w fun e w' => (∃ v r, e = .returned v ∧ RotIs l ⟨f0, f1, f2, f3⟩ t g r ∧ w'.ownsRow w.heap.size 30 4 v r.length (KeysV r)) ∧ Below w.heap.size w w' := by
  obtain ⟨i0, hi, hz0, hz1, hz2⟩ := info_partsK info_Key
  obtain ⟨W, hW⟩ : ∃ W, W = w.alloc (.cells #[.string f0, .int .i64 f1, .int .i64 f2, .int .i64 f3] 30) := ⟨_, rfl⟩
  have B0 := hide (show Below w.heap.size w W by rw [hW]; exact bAl (Below.refl _ _) _)
  have R0 := hide (show RowIs W w.heap.size #[.string f0, .int .i64 f1, .int .i64 f2, .int .i64 f3] 30 by rw [hW]; exact RowIs.new _ _ _)
  have HS := hide (hs.keep (unhide B0))
  have HLL := hide hs.1
  have ZB := hide (show w.heap.size < W.heap.size by rw [hW]; simp)
  have HW := hide hW.symm
  have q0 := hide (fun (hs : SlKey W a len l) => iGoodRing_w a len cap l W (by rw [← hs.1]; exact hl) hs (fun q h => (hok q h).o0))
  have qk := hide (fun (h : len ≤ 1000) (t e : Int) (w : World) (hs : SlKey w a len l) => keptKeys_any a len cap l t e w h hs)
  have ql := hide (fun (L : List KeyT) (a : Option Addr) (c : Nat) (w : World) (h : L.length ≤ maxLen) (hs : SlKey w a L.length L) (ok : ∀ q ∈ L, q.f0.size ≤ maxLen) => iGoodRing_w a L.length c L w h hs ok)
  have HO := hide (fun q h => (hok q h).o0)
  have HF := hide hf
  obtain ⟨bt, hbt⟩ : ∃ b, b = decide ((0 : Int) ≤ t ∧ t ≤ 100000000000) := ⟨_, rfl⟩
  obtain ⟨bg, hbg⟩ : ∃ b, b = decide ((0 : Int) ≤ g ∧ g ≤ 100000000000) := ⟨_, rfl⟩
  have qt := hide (fun w => between_any 0 t 100000000000 w)
  have qg := hide (fun w => between_any 0 g 100000000000 w)
  rw [← hbt] at qt
  rw [← hbg] at qg
  have HBT := hide (show bt = true ↔ ((0 : Int) ≤ t ∧ t ≤ 100000000000) by rw [hbt]; exact decide_eq_true_iff)
  have HBG := hide (show bg = true ↔ ((0 : Int) ≤ g ∧ g ≤ 100000000000) by rw [hbg]; exact decide_eq_true_iff)
  clear hbt hbg
  clear hW hs hl hok hf
  go_enter Try.func9, Try.ntmps9
  go_wp2_with fail
  rw [unhide HW]
  refine (unhide q0 (unhide HS)).mono ?_
  rintro e w1 ⟨⟨b, rfl, hb⟩, hb1⟩
  have HB := hide hb
  have B1 := hide hb1
  clear hb hb1 q0 HW
  cases b
  · go_wp2_with fail
    go_ret
    exact ⟨⟨_, [], rfl, RotIs.bad (fun h => by have := (unhide HB).2 h.1; cases this), World.ownsRow_nil _ _ _ _⟩, bTr (unhide B0) ((unhide B1).mono (by have := unhide ZB; omega))⟩
  have HR := hide ((unhide HB).1 (by trivial))
  clear HB
  cases bt
  · go_wp2_with (go_at_call 17; refine (unhide qt _).mono ?_; rintro e w' ⟨rfl, rfl⟩)
    go_ret
    exact ⟨⟨_, [], rfl, RotIs.bad (fun h => by have := (unhide HBT).2 h.2.1; cases this), World.ownsRow_nil _ _ _ _⟩, bTr (unhide B0) ((unhide B1).mono (by have := unhide ZB; omega))⟩
  cases bg
  · go_wp2_with (go_at_call 17; first | (with_reducible refine (unhide qt _).mono ?_; rintro e w' ⟨rfl, rfl⟩) | (with_reducible refine (unhide qg _).mono ?_; rintro e w' ⟨rfl, rfl⟩))
    go_ret
    exact ⟨⟨_, [], rfl, RotIs.bad (fun h => by have := (unhide HBG).2 h.2.2; cases this), World.ownsRow_nil _ _ _ _⟩, bTr (unhide B0) ((unhide B1).mono (by have := unhide ZB; omega))⟩
  have OK := hide (show RotOk l t g from ⟨unhide HR, (unhide HBT).1 rfl, (unhide HBG).1 rfl⟩)
  obtain ⟨_, ⟨t0, t1⟩, g0, g1⟩ := unhide OK
  have L10 : len ≤ 10 := by have h1 := (unhide HR).1; have h2 := unhide HLL; omega
  have HQ := hide (unhide qk (by omega))
  clear qk HBT HBG
  go_upto_region 3 with (go_at_call 17; first | (with_reducible refine (unhide qt _).mono ?_; rintro e w' ⟨rfl, rfl⟩) | (with_reducible refine (unhide qg _).mono ?_; rintro e w' ⟨rfl, rfl⟩))
  clear qt qg
  have RB := hide ((unhide R0).keep (unhide B1))
  have S1 := hide ((unhide HS).keep (unhide B1))
  have ZW1 := hide (unhide B1).size
  clear R0 HS
  obtain ⟨n, hn⟩ : ∃ n, n = (kpt t (t + g) l).length := ⟨_, rfl⟩
  have LK : n ≤ 10 := by have := kpt_len t (t + g) l; have h2 := unhide HLL; omega
  have LN := hide hn
  have QK := hide (fun (w : World) (hs : SlKey w a len l) => unhide HQ t (t + g) w hs)
  have OA0 := hide (fun (v : Value) (w0 w2 : World) (h : KK w0 w2 v (kpt t (t + g) l)) (z : W.heap.size ≤ w0.heap.size) => show w2.ownsRow W.heap.size 30 4 v n (KeysV (kpt t (t + g) l)) by rw [hn]; exact own_baseR h.out z)
  clear hn HQ
  -- THE REGION
  have cellsAt : Hid (∀ X, RowIs X w.heap.size #[.string f0, .int .i64 f1, .int .i64 f2, .int .i64 f3] 30 → (X.cell? ⟨w.heap.size, 0, none⟩ = some (.string f0) ∧ X.cell? ⟨w.heap.size, 1, none⟩ = some (.int .i64 f1) ∧ X.cell? ⟨w.heap.size, 2, none⟩ = some (.int .i64 f2) ∧ X.cell? ⟨w.heap.size, 3, none⟩ = some (.int .i64 f3))) := hide (fun X R => ⟨R.at rfl, R.at rfl, R.at rfl, R.at rfl⟩)
  have hwr : IntKind.i64.wrap (t + g) = t + g := by rw [IntKind.wrap_i64]; omega
  have RD := hide ((unhide RB).keep (Below.refl _ _).drew)
  have SD := hide ((unhide S1).keep (Below.refl _ _).drew)
  have BD := hide ((unhide B1).drew)
  have RE := hide (((unhide RB).keep (bAl (Below.refl _ _) (.cells #[.string f0, .int .i64 f1, .int .i64 f2, .int .i64 f3] 30))).keep (Below.refl _ _).drew)
  have SE := hide (((unhide S1).keep (bAl (Below.refl _ _) (.cells #[.string f0, .int .i64 f1, .int .i64 f2, .int .i64 f3] 30))).keep (Below.refl _ _).drew)
  have BE := hide ((bAl (unhide B1) (.cells #[.string f0, .int .i64 f1, .int .i64 f2, .int .i64 f3] 30)).drew)
  have EE := hide ((show RowIs (w1.alloc (.cells #[.string f0, .int .i64 f1, .int .i64 f2, .int .i64 f3] 30)) w1.heap.size #[.string f0, .int .i64 f1, .int .i64 f2, .int .i64 f3] 30 from RowIs.new _ _ _).keep (Below.refl _ _).drew)
  have RS0 := RB
  go_region_held3 (fun w' => w'.cell? ⟨w.heap.size, 0, none⟩ = some (.string f0) ∧ w'.cell? ⟨w.heap.size, 1, none⟩ = some (.int .i64 f1) ∧ w'.cell? ⟨w.heap.size, 2, none⟩ = some (.int .i64 f2) ∧ w'.cell? ⟨w.heap.size, 3, none⟩ = some (.int .i64 f3))
    (first
      | exact unhide cellsAt _ (unhide RS0)
      | exact unhide cellsAt _ (unhide RD)
      | exact unhide cellsAt _ (unhide RE)
      | exact unhide cellsAt _ (unhide RA)
      | exact unhide cellsAt _ ((unhide RA).keep (bAl (Below.refl _ _) _))
      | exact unhide cellsAt _ (unhide R3))
    (first
      | (go_at_call 18; with_reducible refine (unhide QK _ (unhide SD)).mono ?_; rintro e w2 ⟨v2, rfl, hk2⟩; have RA := hide ((unhide RD).keep hk2.below); have OA := hide (unhide OA0 _ _ _ hk2 (unhide BD).size); have BA := hide (bTr (unhide BD) hk2.below); clear hk2)
      | (go_at_call 18; with_reducible refine (unhide QK _ (unhide SE)).mono ?_; rintro e w2 ⟨v2, rfl, hk2⟩; have RA := hide ((unhide RE).keep hk2.below); have OA := hide (unhide OA0 _ _ _ hk2 (unhide BE).size); have BA := hide (bTr (unhide BE) hk2.below); have EA := hide ((unhide EE).keep hk2.below); clear hk2)
      | (refine step_append_lies _ (by rfl) _ _ _ (by rfl) W.heap.size 30 i0 _ 4 40 Try.underlying27 hi hz0 hz1 hz2 rfl (by omega) v2 n _ (by rfl) (unhide OA) ⟨w1.heap.size, 0, none⟩ 1 1 [.string f0, .int .i64 f1, .int .i64 f2, .int .i64 f3] (by rfl) (by rfl) (World.news_of_block (unhide EA)) (by simp [Value.oneCell']) (by omega) (by unfold maxLen; omega) (by omega) (unhide BA).size (w2.heap.size) (by rfl) ?_; intro g' cp w3 hown hgrow hat hlt3; have R3 := hide (row_far2 (unhide RA) hgrow (unhide OA) (unhide ZB)); have OUT := hide (out_app (c := ⟨f0, f1, f2, f3⟩) (unhide LN) hown); have BOUT := hide ((unhide BA).grown hgrow (unhide BA).size (fun k hk => ((unhide OA).lt k hk).1)); clear hown hgrow hat hlt3)
      | (refine step_append_lies _ (by rfl) _ _ _ (by rfl) W.heap.size 30 i0 _ 4 40 Try.underlying27 hi hz0 hz1 hz2 rfl (by omega) v2 n _ (by rfl) ((unhide OA).alloc _) ⟨w2.heap.size, 0, none⟩ 1 1 [.string f0, .int .i64 f1, .int .i64 f2, .int .i64 f3] (by rfl) (by rfl) (World.news_of_block (cs := #[.string f0, .int .i64 f1, .int .i64 f2, .int .i64 f3]) (t := 30) (fr := (0, 0)) (heap_alloc_new w2 _)) (by simp [Value.oneCell']) (by omega) (by unfold maxLen; omega) (by omega) (by have := (unhide BA).size; simp; omega) (w2.heap.size + 1) (by simp) ?_; intro g' cp w3 hown hgrow hat hlt3; have R3 := hide (row_far2 ((unhide RA).keep (bAl (Below.refl _ _) _)) hgrow ((unhide OA).alloc _) (unhide ZB)); have OUT := hide (out_app (c := ⟨f0, f1, f2, f3⟩) (unhide LN) hown); have BOUT := hide ((bAl (unhide BA) _).grown hgrow (bAl (unhide BA) _).size (fun k hk => ((unhide OA).lt k hk).1)); clear hown hgrow hat hlt3))
  all_goals
    have HD : Hid (n + 1 = (kpt t (t + g) l ++ [(⟨f0, f1, f2, f3⟩ : KeyT)]).length) := hide (by rw [List.length_append, ← unhide LN]; rfl)
    rw [unhide HD]
    have LL : (kpt t (t + g) l ++ [(⟨f0, f1, f2, f3⟩ : KeyT)]).length ≤ 11 := by rw [← unhide HD]; omega
    have MEM := hide (show ∀ q ∈ kpt t (t + g) l ++ [(⟨f0, f1, f2, f3⟩ : KeyT)], q.f0.size ≤ maxLen from fun q hq => by
      rcases List.mem_append.1 hq with h | h
      · obtain ⟨x, hx, ex⟩ := kpt_mem h
        rw [ex]; exact unhide HO x hx
      · simp at h; subst h; exact unhide HF)
    clear HD RB RD RE SD SE BD BE EE RS0 cellsAt LK
    obtain ⟨L, hL⟩ : ∃ L, L = kpt t (t + g) l ++ [(⟨f0, f1, f2, f3⟩ : KeyT)] := ⟨_, rfl⟩
    rw [← hL] at OUT MEM LL ⊢
    have HL := hide hL
    clear hL
    have qs := hide (sortKeys L g' cp W.heap.size w3 (by omega) (unhide OUT))
    go_wp2_with fail
    refine (unhide qs).mono ?_
    rintro e w4 ⟨rfl, l', hl'⟩
    obtain ⟨hp, hws, ho4, hb4⟩ := unhide hl'
    have el := hp.length_eq
    rw [← el] at ho4 ⊢
    have HE := hide (show l'.Perm (kpt t (t + g) l ++ [⟨f0, f1, f2, f3⟩]) ∧ WS l' from ⟨by rw [← unhide HL]; exact hp, hws⟩)
    have MEM2 := hide (fun q (hq : q ∈ l') => unhide MEM q (hp.mem_iff.1 hq))
    have L2 : l'.length ≤ 11 := by omega
    have O4 := hide ho4
    have B4 := hide ((unhide BOUT).trans hb4)
    obtain ⟨aL, cL, eL, hsL⟩ := own_Key ho4
    simp only [Value.slice.injEq, true_and] at eL
    obtain ⟨rfl, rfl⟩ := eL
    have q5 := hide (unhide ql l' _ cp w4 (by unfold maxLen; omega) hsL (unhide MEM2))
    clear hp hws ho4 hb4 hl' el hsL qs OUT BOUT MEM MEM2 HL LL
    go_wp2_with fail
    refine (unhide q5).mono ?_
    rintro e w6 ⟨⟨b, rfl, hb⟩, hb6⟩
    have HB := hide hb
    have O6 := hide (own_keep (unhide O4) hb6)
    have B6 := hide (bTr (unhide B0) (((unhide B4).trans (hb6.mono (unhide B4).size)).mono (by have := unhide ZB; omega)))
    clear hb hb6 O4 B4 q5
    cases b
    · go_wp2_with fail
      go_ret
      exact ⟨⟨_, [], rfl, RotIs.no (unhide HE).1 (unhide HE).2 (fun h => by have := (unhide HB).2 h; cases this), World.ownsRow_nil _ _ _ _⟩, unhide B6⟩
    · go_wp2_with fail
      go_ret
      exact ⟨⟨_, l', rfl, RotIs.yes (unhide OK) (unhide HE).1 ((unhide HB).1 (by trivial)), own_baseR (unhide O6) (by have := unhide ZB; omega)⟩, unhide B6⟩
end Go.Proofs.Ytenbliiombjldaa
