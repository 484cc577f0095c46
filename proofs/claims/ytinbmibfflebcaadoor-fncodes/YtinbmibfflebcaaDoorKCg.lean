/- FnCodes: the law's whole walk. -/
import Derived.Test.YtinbmibfflebcaaDoorKCe
import Derived.Test.YtinbmibfflebcaaDoorKCf
namespace Go.Proofs.YtinbmibfflebcaaDoor.D
set_option maxRecDepth 20000
open Go.RowKit

theorem CodeAt.on {w w' : World} {a : Option Addr} {len : Nat} (h : CodeAt w w.heap.size a len) (hb : Below w.heap.size w w') : CodeAt w' w'.heap.size a len := by
  obtain ⟨h1, h2⟩ := h.keep (b := w.heap.size) (But.of hb)
  refine ⟨h1, ?_⟩
  rcases h2 with e | ⟨blk, off, e, z, n, r⟩
  · exact .inl e
  · exact .inr ⟨blk, off, e, z, z, r⟩
set_option maxHeartbeats 8000000 in
theorem codes_any (a : Option Addr) (len cap : Nat) (w : World) (hc : CodeAt w w.heap.size a len) (hM : Mults w) (hT : Tab w) :
    Calls Tryd.prog 3 #[.slice a len cap] w fun e w' => e = .returned (.bool true) ∧ Below w.heap.size w w' := by
  have hlm := hc.1
  unfold maxLen at hlm
  have HC := hide hc
  have HM := hide hM
  have HT := hide hT
  have h00 := hM.1
  clear hc hM hT
  by_cases h1 : (1048576 : Int) < (len : Int)
  · go_enter Tryd.func3, Tryd.ntmps3
    go_wp2_with fail
    go_ret
    exact ⟨rfl, Below.refl _ _⟩
  go_enter Tryd.func3, Tryd.ntmps3
  go_wp2_with fail
  refine (drawCheckCode_any a len cap w (unhide HC)).mono ?_
  rintro e w1 ⟨a1, ln, c1, D, n, p, d, t, hD, ⟨n0, n1⟩, ⟨p0, p1⟩, rfl, hs, hb⟩
  have S1 := hide hs
  have B1 := hide hb
  clear hs hb
  obtain ⟨tl, htl⟩ : ∃ l : List UInt8, t = ⟨l.toArray⟩ := ⟨t.data.toList, string_toList t⟩
  subst htl
  have ec : ∀ k, ckC D n p d tl = (k, true) → n < k ∧ k ≤ n + p + 1 ∧ codeD D (k - 1) d = tl := fun k h => ckC_true h
  have qi := hide (fun w hs hM hT => iCheckCode_any a1 ln c1 D n p d tl w (by omega) hs hM hT)
  have qs := hide (fun w hs => sCheckCode_any a1 ln c1 D n p d tl w (by omega) hs)
  obtain ⟨⟨K, Y⟩, hK⟩ : ∃ x, x = ckC D n p d tl := ⟨_, rfl⟩
  rw [← hK] at qi qs ec
  clear hK
  dsimp only at qi qs
  have EC := hide ec
  have eK : (K != K) = false := by simp
  have eY : (Y != Y) = false := by simp
  clear ec
  go_wp2_with fail
  refine (unhide qi _ (unhide S1) ((unhide HM).keepB (unhide B1) h00) (Tab.keep (unhide HT) (unhide B1))).mono ?_
  rintro e w2 ⟨rfl, hb⟩
  have S2 := hide (((unhide S1).keep hb).mono hb.size)
  have B2 := hide (bTr (unhide B1) hb)
  clear hb S1 B1 qi
  go_wp2_with fail
  refine (unhide qs _ (unhide S2)).mono ?_
  rintro e w3 ⟨rfl, hb⟩
  have S3 := hide (((unhide S2).keep hb).mono hb.size)
  have B3 := hide (bTr (unhide B2) hb)
  clear hb S2 B2 qs
  cases Y
  · clear EC S3
    go_wp2_with fail
    refine (drawCheckTimed_any a len cap _ ((unhide HC).on (unhide B3))).mono ?_
    rintro e v1 ⟨a2, lm, c2, E, T, L, d2, u, hE, ⟨T0, T1⟩, ⟨L0, L1⟩, rfl, hs, hb⟩
    have X1 := hide hs
    have C1 := hide (bTr (unhide B3) hb)
    clear hs hb B3
    obtain ⟨ul, hul⟩ : ∃ l : List UInt8, u = ⟨l.toArray⟩ := ⟨u.data.toList, string_toList u⟩
    subst hul
    have qi := hide (fun w hs hM hT => iCheckTimed_any a2 lm c2 E T L d2 ul w (by omega) hs hM hT)
    have qs := hide (fun w hs => sCheckTimed_any a2 lm c2 E T L d2 ul w (by omega) hs)
    obtain ⟨⟨G, Z⟩, hG⟩ : ∃ x, x = ckT E T L d2 ul := ⟨_, rfl⟩
    have hGT : Z = true → L < G := fun h => ckT_true (by rw [← hG, h])
    rw [← hG] at qi qs
    clear hG
    dsimp only at qi qs
    have eG : (G != G) = false := by simp
    have eZ : (Z != Z) = false := by simp
    go_wp2_with fail
    refine (unhide qi _ (unhide X1) ((unhide HM).keepB (unhide C1) h00) (Tab.keep (unhide HT) (unhide C1))).mono ?_
    rintro e v2 ⟨rfl, hb⟩
    have X2 := hide (((unhide X1).keep hb).mono hb.size)
    have C2 := hide (bTr (unhide C1) hb)
    clear hb X1 C1 qi
    go_wp2_with fail
    refine (unhide qs _ (unhide X2)).mono ?_
    rintro e v3 ⟨rfl, hb⟩
    have X3 := hide (((unhide X2).keep hb).mono hb.size)
    have C3 := hide (bTr (unhide C2) hb)
    clear hb X2 C2 qs
    cases Z
    · clear hGT
      go_wp2_with fail
      go_ret
      exact ⟨rfl, unhide C3⟩
    · have gt := hGT rfl
      have qj := hide (fun w hs hM hT => iCheckTimed_any a2 lm c2 E T G d2 ul w (by omega) hs hM hT)
      obtain ⟨⟨H, V⟩, hH⟩ : ∃ x, x = ckT E T G d2 ul := ⟨_, rfl⟩
      have hHT : V = true → G < H := fun h => ckT_true (by rw [← hH, h])
      rw [← hH] at qj
      clear hH hGT
      dsimp only at qj
      go_wp2_with fail
      refine (unhide qj _ (unhide X3) ((unhide HM).keepB (unhide C3) h00) (Tab.keep (unhide HT) (unhide C3))).mono ?_
      rintro e v4 ⟨rfl, hb⟩
      have C4 := hide (bTr (unhide C3) hb)
      clear hb X3 C3 qj
      cases V
      · clear hHT
        go_wp2_with fail
        go_ret
        exact ⟨rfl, unhide C4⟩
      · have hh := hHT rfl
        clear hHT
        go_wp2_with fail
        go_ret
        exact ⟨rfl, unhide C4⟩
  · obtain ⟨k0, k1, k2⟩ := unhide EC K rfl
    clear EC
    have k3 : (K ≤ n) = False := eq_false (by omega)
    have k4 : (n + p + 1 < K) = False := eq_false (by omega)
    have qc := hide (iCodeOf_any a1 ln c1 D (K - 1) d w3 (by omega) (unhide S3) ((unhide HM).keepB (unhide B3) h00) (Tab.keep (unhide HT) (unhide B3)))
    rw [k2] at qc
    clear k2 S3
    go_wp2_with fail
    refine (unhide qc).mono ?_
    rintro e w4 ⟨rfl, hb⟩
    have B4 := hide (bTr (unhide B3) hb)
    clear hb B3 qc
    go_wp2_with fail
    refine (drawCheckTimed_any a len cap _ ((unhide HC).on (unhide B4))).mono ?_
    rintro e v1 ⟨a2, lm, c2, E, T, L, d2, u, hE, ⟨T0, T1⟩, ⟨L0, L1⟩, rfl, hs, hb⟩
    have X1 := hide hs
    have C1 := hide (bTr (unhide B4) hb)
    clear hs hb B4
    obtain ⟨ul, hul⟩ : ∃ l : List UInt8, u = ⟨l.toArray⟩ := ⟨u.data.toList, string_toList u⟩
    subst hul
    have qi := hide (fun w hs hM hT => iCheckTimed_any a2 lm c2 E T L d2 ul w (by omega) hs hM hT)
    have qs := hide (fun w hs => sCheckTimed_any a2 lm c2 E T L d2 ul w (by omega) hs)
    obtain ⟨⟨G, Z⟩, hG⟩ : ∃ x, x = ckT E T L d2 ul := ⟨_, rfl⟩
    have hGT : Z = true → L < G := fun h => ckT_true (by rw [← hG, h])
    rw [← hG] at qi qs
    clear hG
    dsimp only at qi qs
    have eG : (G != G) = false := by simp
    have eZ : (Z != Z) = false := by simp
    go_wp2_with fail
    refine (unhide qi _ (unhide X1) ((unhide HM).keepB (unhide C1) h00) (Tab.keep (unhide HT) (unhide C1))).mono ?_
    rintro e v2 ⟨rfl, hb⟩
    have X2 := hide (((unhide X1).keep hb).mono hb.size)
    have C2 := hide (bTr (unhide C1) hb)
    clear hb X1 C1 qi
    go_wp2_with fail
    refine (unhide qs _ (unhide X2)).mono ?_
    rintro e v3 ⟨rfl, hb⟩
    have X3 := hide (((unhide X2).keep hb).mono hb.size)
    have C3 := hide (bTr (unhide C2) hb)
    clear hb X2 C2 qs
    cases Z
    · clear hGT
      go_wp2_with fail
      go_ret
      exact ⟨rfl, unhide C3⟩
    · have gt := hGT rfl
      have qj := hide (fun w hs hM hT => iCheckTimed_any a2 lm c2 E T G d2 ul w (by omega) hs hM hT)
      obtain ⟨⟨H, V⟩, hH⟩ : ∃ x, x = ckT E T G d2 ul := ⟨_, rfl⟩
      have hHT : V = true → G < H := fun h => ckT_true (by rw [← hH, h])
      rw [← hH] at qj
      clear hH hGT
      dsimp only at qj
      go_wp2_with fail
      refine (unhide qj _ (unhide X3) ((unhide HM).keepB (unhide C3) h00) (Tab.keep (unhide HT) (unhide C3))).mono ?_
      rintro e v4 ⟨rfl, hb⟩
      have C4 := hide (bTr (unhide C3) hb)
      clear hb X3 C3 qj
      cases V
      · clear hHT
        go_wp2_with fail
        go_ret
        exact ⟨rfl, unhide C4⟩
      · have hh := hHT rfl
        clear hHT
        go_wp2_with fail
        go_ret
        exact ⟨rfl, unhide C4⟩
end Go.Proofs.YtinbmibfflebcaaDoor.D
