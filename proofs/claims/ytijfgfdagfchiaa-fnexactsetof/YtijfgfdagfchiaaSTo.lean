/- laws.toAtomS: its row is its own; []laws.Atom as an argument. -/
import Derived.Test.YtijfgfdagfchiaaSBase
import Derived.Test.YtijfgfdagfchiaaWSli
import Derived.Test.YtijfgfdagfchiaaWRead
import Derived.Test.YtijfgfdagfchiaaSMk
namespace Go.Proofs.Ytijfgfdagfchiaa.V
open Go.RowKit Go.ChangeShapes Go.WideShapes
theorem own_filled {w : World} {b base len : Nat} {C : Array Value} {l : List AtomT} (hr : RowIs w b C 26) (hC : C.size = len * 4) (hl : len = l.length) (h : Filled C l l.length) (hb : base ≤ b) (hm : len ≤ maxLen) :
    w.ownsRow base 26 4 (.slice (some ⟨b, 0, none⟩) len len) len (atomsV l) := by
  refine ⟨by rw [atomsV_len, hl], .inr ⟨b, len, C, rfl, hb, hr, Nat.le_refl _, hm, hC, ?_⟩⟩
  rw [List.take_of_length_le (by simp [hC])]
  apply List.ext_getElem?
  intro i
  by_cases hi : i < l.length * 4
  · have hd : i = i / 4 * 4 + i % 4 := by omega
    have h4 : i / 4 < l.length := by omega
    have g1 := atomsV_get l (i / 4) (i % 4) h4 (Nat.mod_lt _ (by omega))
    rw [← hd] at g1
    rw [g1, Array.getElem?_toList]
    obtain ⟨h0, h1, h2, h3⟩ := h (i / 4) h4 h4
    have h5 : i % 4 = 0 ∨ i % 4 = 1 ∨ i % 4 = 2 ∨ i % 4 = 3 := by omega
    rcases h5 with k | k | k | k
    · rw [k]; rw [show i / 4 * 4 = i by omega] at h0; exact h0
    · rw [k]; rw [show i / 4 * 4 + 1 = i by omega] at h1; exact h1
    · rw [k]; rw [show i / 4 * 4 + 2 = i by omega] at h2; exact h2
    · rw [k]; rw [show i / 4 * 4 + 3 = i by omega] at h3; exact h3
  · rw [List.getElem?_eq_none (by simp [hC]; omega), List.getElem?_eq_none (by rw [atomsV_len]; omega)]
set_option maxHeartbeats 1000000 in
theorem toAtomS_own (a : Option Addr) (len cap : Nat) (l : List AtomT) (w : World) (hl : len ≤ 1048576) (hs : SlA w a len l) :
    Calls Try.prog 11 #[.slice a len cap] w fun e w' => e = .returned (.slice (some ⟨w.heap.size, 0, none⟩) len len) ∧ w'.ownsRow w.heap.size 26 4 (.slice (some ⟨w.heap.size, 0, none⟩) len len) len (atomsV l) ∧ Below w.heap.size w w' := by
  obtain ⟨w1, C1, hrun, hb1, hr1, hC1⟩ := make_atoms len w hl
  have HS := hide hs
  have HB1 := hide hb1
  have HR1 := hide hr1
  clear hs hb1 hr1
  go_enter Try.func11, Try.ntmps11
  go_wp2
  clear hrun
  go_loopw [4] (fun i w' => ∃ (k : Nat) (C : Array Value), k ≤ len ∧ i = .int .i64 k ∧ Hid (Below w.heap.size w w') ∧ Hid (RowIs w' w.heap.size C 26) ∧ Hid (C.size = len * 4) ∧ Hid (Filled C l k)) (fun i _ => len - (intOf i).toNat)
  case atStart => exact ⟨0, C1, Nat.zero_le _, rfl, HB1, HR1, hide hC1, hide (fun i _ h => absurd h (Nat.not_lt_zero _))⟩
  case round =>
    obtain ⟨k, C, hk, rfl, hb, hr, hC, hF⟩ := hrel
    by_cases hlt : k < len
    · obtain ⟨b, off, rfl, hrow⟩ := ((unhide HS).keep (unhide hb)).at hlt
      have hk' : k < l.length := by rw [← (unhide HS).1]; exact hlt
      obtain ⟨c0, c1, c2, c3⟩ := hrow.c k hk'
      have hF' := hide ((unhide hF).set hk' (by rw [unhide hC, (unhide HS).1]))
      clear hrow hC1
      generalize l[k] = A at c0 c1 c2 c3 hF'
      go_wp2_with fail
      refine (toAtom_any _ _ _ _ _).mono ?_
      rintro e w2 ⟨rfl, hb2⟩
      replace hr := hide ((unhide hr).keep hb2)
      replace hb := hide (bTr (unhide hb) hb2)
      have f0 := (unhide hr).froz (k * 4)
      have f1 := (unhide hr).froz (k * 4 + 1)
      have f2 := (unhide hr).froz (k * 4 + 2)
      have f3 := (unhide hr).froz (k * 4 + 3)
      have s3 : k * 4 + 3 < C.size := by rw [unhide hC]; omega
      have g0 := (unhide hr).cell (k * 4)
      have g1 := (unhide hr).cell (k * 4 + 1)
      have g2 := (unhide hr).cell (k * 4 + 2)
      have g3 := (unhide hr).cell (k * 4 + 3)
      rw [Array.getElem?_eq_getElem (by omega)] at g0 g1 g2 g3
      generalize C[k * 4] = D0 at g0
      generalize C[k * 4 + 1] = D1 at g1
      generalize C[k * 4 + 2] = D2 at g2
      generalize C[k * 4 + 3] = D3 at g3
      clear c0 c1 c2 c3 hb2
      go_wp2_with fail
      refine ⟨⟨k + 1, set4 C k A, by omega, by go_num, hide ?_, hide ?_, hide (by rw [size_set4]; exact unhide hC), hF'⟩, by simp [intOf]; omega⟩
      · exact ((((unhide hb).setCell (Nat.le_refl _) _).setCell (Nat.le_refl _) _).setCell (Nat.le_refl _) _).setCell (Nat.le_refl _) _
      · exact ((((unhide hr).set _ _).set _ _).set _ _).set _ _
    · go_wp2_with fail
      go_ret
      have e : k = l.length := by rw [← (unhide HS).1]; omega
      exact ⟨rfl, own_filled (unhide hr) (unhide hC) (unhide HS).1 (by rw [← e]; exact unhide hF) (Nat.le_refl _) (by unfold maxLen; omega), unhide hb⟩
section
variable {H : Type} {enc : TypeId × Value → H} {w : World} {base : Nat} {sp : Nat → Bool} {held : Bool}
theorem read_Atoms {r : Reach} {b0 : Nat} {v0 : Value} {d : DataW H} {p : List MemPlace} (hv : Value.okWide Try.prog w r b0 34 v0) (h : DataW.Trod enc Try.prog w base sp held 34 v0 d p) :
    ∃ (l : List AtomT) (a : Option Addr) (len cap : Nat), v0 = .slice a len cap ∧ SlA w a len l ∧ (∀ q ∈ l, AtomT.Ok q) ∧ len ≤ maxLen := by
  obtain ⟨fuel, hf0⟩ := h
  obtain ⟨a, len, cap, rfl⟩ := okWide_slice Try.underlying34 hv
  obtain ⟨l, h1, h2, h3⟩ := read_atoms hf0
  exact ⟨l, a, len, cap, rfl, h1, h2, h3⟩
end
theorem VOwn.grown {w w' : World} {base : Nat} {v : ValT} {v1 v2 : Value} {r : Option Nat} (h : VOwn w base v v1 v2) (hg : w.grownBy w' r) (h1 : v1.ownBlock = none ∨ v1.ownBlock ≠ r) (h2 : v2.ownBlock = none ∨ v2.ownBlock ≠ r) : VOwn w' base v v1 v2 :=
  ⟨h.i.kept hg h1, h.n.kept hg h2, h.dj⟩
theorem own_keepB {B : Nat} {w w' : World} {base n e size : Nat} {v : Value} {xs : List Value} (h : w.ownsRow base e size v n xs) (hb : Below B w w') (hlt : ∀ g, v.ownBlock = some g → g < B) : w'.ownsRow base e size v n xs := by
  refine ⟨h.1, ?_⟩
  rcases h.2 with h2 | ⟨g, cap, cur, hv, h3, h4, h5⟩
  · exact .inl h2
  · exact .inr ⟨g, cap, cur, hv, h3, by rw [hb.block g (hlt g (by rw [hv]; rfl))]; exact h4, h5⟩
theorem VOwn.keepB {B : Nat} {w w' : World} {base : Nat} {v : ValT} {v1 v2 : Value} (h : VOwn w base v v1 v2) (hb : Below B w w') (h1 : ∀ g, v1.ownBlock = some g → g < B) (h2 : ∀ g, v2.ownBlock = some g → g < B) : VOwn w' base v v1 v2 :=
  ⟨own_keepB h.i hb h1, own_keepB h.n hb h2, h.dj⟩
theorem ne_own {v : Value} {b : Nat} (h : ∀ g, v.ownBlock = some g → g ≠ b) : v.ownBlock = none ∨ v.ownBlock ≠ some b := by
  cases e : v.ownBlock with
  | none => exact .inl rfl
  | some g => exact .inr (fun k => h g e (Option.some.inj k))
end Go.Proofs.Ytijfgfdagfchiaa.V
