/- FnCodes: its drawers. -/
import Derived.Test.YtinbmibfflebcaaDoorKCc
import Derived.Test.YtinbmibfflebcaaDoorDSpo
namespace Go.Proofs.YtinbmibfflebcaaDoor.D
set_option maxRecDepth 20000
open Go.RowKit

theorem results_tmp5 {fn : Func} {t u v x y : Tmp} (h : fn.results = #[.tmp t, .tmp u, .tmp v, .tmp x, .tmp y]) (tmps : Array Value) (P : Program) (w : World) :
    (results fn tmps).run P w = .ok (.tuple #[tmps.getD t undef, tmps.getD u undef, tmps.getD v undef, tmps.getD x undef, tmps.getD y undef]) w := by
  simp [results, h]
theorem fC_true (P : Int → Bool) : ∀ (m : Nat) (f k : Int), fC P f m = (k, true) → f ≤ k ∧ k < f + m ∧ P k = true
  | 0, f, k, h => by simp [fC] at h
  | m + 1, f, k, h => by
    cases e : P f
    · rw [fC_no e] at h
      obtain ⟨h1, h2, h3⟩ := fC_true P m (f + 1) k h
      exact ⟨by omega, by omega, h3⟩
    · rw [fC_yes e] at h
      simp only [Prod.mk.injEq, and_true] at h
      subst h
      exact ⟨by omega, by omega, e⟩
theorem ckC_true {s : List UInt8} {c wn d k : Int} {cl : List UInt8} (h : ckC s c wn d cl = (k, true)) : c < k ∧ k ≤ c + wn + 1 ∧ codeD s (k - 1) d = cl := by
  by_cases ho : OkC s c wn d
  · rcases fC_ok (codeB s d cl) (wn.toNat + 1) c with e | ⟨j, _, _, e⟩
    · rw [ckC_none ho e] at h; simp at h
    · rw [ckC_yes ho e] at h
      obtain ⟨h1, h2, h3⟩ := fC_true _ _ _ _ e
      simp only [Prod.mk.injEq, and_true] at h
      subst h
      have hw := ho.2.1
      refine ⟨by omega, by omega, ?_⟩
      rw [show j + 1 - 1 = j by omega]
      exact (of_decide_eq_true h3).2
  · rw [ckC_no ho] at h; simp at h
theorem ckT_true {s : List UInt8} {t last d k : Int} {cl : List UInt8} (h : ckT s t last d cl = (k, true)) : last < k := by
  by_cases ho : OkT s t last d
  · rw [ckT_yes ho] at h
    obtain ⟨_, _, h3⟩ := fC_true _ _ _ _ h
    by_cases hk : 0 ≤ k ∧ last < k
    · exact hk.2
    · rw [tmB_out hk] at h3; simp at h3
  · rw [ckT_no ho] at h; simp at h
/-- What a drawer keeps: the secret that was drawn, its cursor. -/
structure DSt (w : World) (m : Nat) (a : Option Addr) (ln cap : Nat) (D : List UInt8) (w' : World) : Prop where
  own : w'.ownsRow (w.heap.size + 1) 5 1 (.slice a ln cap) D.length (D.map byteV)
  cur : CurOk w' w.heap.size m
  but : But w.heap.size w w'
theorem DSt.step {w : World} {m m' : Nat} {a : Option Addr} {ln cap : Nat} {D : List UInt8} {w1 w2 : World} (h : DSt w m a ln cap D w1) (hc : CurOk w2 w.heap.size m') (hb : But w.heap.size w1 w2) : DSt w m' a ln cap D w2 :=
  ⟨own_but h.own hb (by omega), hc, h.but.trans hb⟩
theorem DSt.keep {w : World} {m : Nat} {a : Option Addr} {ln cap : Nat} {D : List UInt8} {w1 w2 : World} (h : DSt w m a ln cap D w1) (hb : Below w1.heap.size w1 w2) : DSt w m a ln cap D w2 :=
  ⟨own_keep h.own hb, h.cur.keep hb, h.but.trans (But.of hb)⟩
theorem DSt.al {w : World} {m : Nat} {a : Option Addr} {ln cap : Nat} {D : List UInt8} {w1 : World} (h : DSt w m a ln cap D w1) (o : Obj) : DSt w m a ln cap D (w1.alloc o) := h.keep (bAl (Below.refl _ _) o)
theorem DSt.sl {w : World} {m : Nat} {a : Option Addr} {ln cap : Nat} {D : List UInt8} {w1 : World} (h : DSt w m a ln cap D w1) : SlB w1 w1.heap.size a ln D := by
  obtain ⟨a', cap', e, hs⟩ := own_sl h.own
  simp only [Value.slice.injEq] at e
  obtain ⟨rfl, e2, rfl⟩ := e
  rw [e2]; exact hs
theorem l16Code_i (a : Option Addr) (len cap : Nat) (s : List UInt8) (c d : Int) (w : World) (hl : len ≤ 1048576) (c0 : 0 ≤ c) (c1 : c ≤ 1000000000000) (d0 : 0 ≤ d) (d1 : d ≤ 8) (hs : SlB w w.heap.size a len s) :
    Calls Tryd.prog 13 #[.slice a len cap, .int .i64 c, .int .i64 d] w fun e w' => (∃ t : ByteArray, t.size ≤ 8 ∧ e = .returned (.string t)) ∧ Below w.heap.size w w' := by
  obtain ⟨C, rfl⟩ := Int.eq_ofNat_of_zero_le c0
  obtain ⟨E, rfl⟩ := Int.eq_ofNat_of_zero_le d0
  refine (l16Code_any a len cap s C E w hl (by omega) (by omega) hs).mono ?_
  rintro e w' ⟨rfl, hb⟩
  refine ⟨⟨_, ?_, rfl⟩, hb⟩
  show (pad (codeN s C) E).toArray.size ≤ 8
  rw [List.size_toArray, pad_len]
  omega
set_option maxHeartbeats 1000000 in
theorem codeSecret_cur (b m : Nat) (w : World) (hm : m ≤ 700000) (hc : CurOk w b m) :
    Calls Tryd.prog 11 #[.pointer (some ⟨b, 0, none⟩)] w fun e w' => (∃ (v : Value) (D : List UInt8), D.length ≤ 7 ∧ e = .returned v ∧ w'.ownsRow w.heap.size 5 1 v D.length (D.map byteV)) ∧ CurOk w' b (m + 200) ∧ But b w w' := by
  obtain ⟨i0, hi, hz0, hz1, hz2⟩ := info_parts info_u8
  have HC := hide hc
  have hblt := hc.lt
  clear hc
  go_enter Tryd.func11, Tryd.ntmps11
  go_wp2_with fail
  refine (bytes_cur b m 6 _ (by omega) (by omega) (by omega) (unhide HC)).mono ?_
  rintro e w2 ⟨⟨v, D, hD, rfl, ho⟩, hc2, hb2⟩
  have O2 := hide ho
  have HC2 := hide hc2
  have B2 := hide hb2
  have z2 := hb2.size
  clear hc2 hb2 ho
  go_wp2_with (at_builtin; refine wpList_append_own _ rfl _ _ 22 rfl w.heap.size 5 i0 (.int .u8 0) 1 1 Tryd.underlying22 hi hz0 hz1 hz2 rfl (by decide) _ _ _ rfl ((unhide O2).alloc _) ⟨_, 0, none⟩ 1 1 [byteV 7] rfl rfl (cell_one_new _ _ _) (fun x hx => by simp at hx; subst hx; rfl) (by unfold maxLen; omega) (by omega) (by simp; omega) ?_; intro v' w3 hown3 hgrow3 _)
  go_ret
  have G := (Below.refl w.heap.size _).grown hgrow3 (by simp; omega) (fun j hj => ((unhide O2).lt j hj).1)
  exact ⟨⟨_, D ++ [7], by simp; omega, rfl, by simpa using hown3⟩, (((unhide HC2).alW _).keepB G hblt), (((unhide B2).al _).thenBelow G)⟩

end Go.Proofs.YtinbmibfflebcaaDoor.D
