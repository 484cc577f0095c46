/- FnChallenged: the law's walk. -/
import Derived.Test.YtlgloffdinnpfaaDoorKAi
import Derived.Test.YtlgloffdinnpfaaDoorKAh
namespace Go.Proofs.YtlgloffdinnpfaaDoor.D
set_option maxRecDepth 20000
open Go.RowKit

set_option maxHeartbeats 8000000 in
theorem chal_any (a : Option Addr) (len cap : Nat) (w : World) (hc : CodeAt w w.heap.size a len) (hM : Mults w) :
    Calls Tryd.prog 3 #[.slice a len cap] w fun e w' => e = .returned (.bool true) ∧ Below w.heap.size w w' := by
  have hlm := hc.1
  unfold maxLen at hlm
  have HC := hide hc
  have HM := hide hM
  have h00 := hM.1
  clear hc hM
  by_cases h1 : (1048576 : Int) < (len : Int)
  · go_enter Tryd.func3, Tryd.ntmps3
    go_wp2_with fail
    go_ret
    exact ⟨rfl, Below.refl _ _⟩
  go_enter Tryd.func3, Tryd.ntmps3
  go_wp2_with fail
  refine (drawAnswerChallenge_any a len cap w (unhide HC)).mono ?_
  rintro e w1 ⟨s, o, a1, ln, c1, D, n, s0, s1, oz, hln, n0, n1, rfl, hs, hb⟩
  have hL := hide hs.1
  have S1 := hide hs
  have B1 := hide hb
  clear hs hb HC
  go_wp2_with fail
  refine (iAnswerChallenge_any s o a1 ln c1 D n w1 (unhide S1) ((unhide HM).keepB (unhide B1) h00)).mono ?_
  rintro e w2 ⟨⟨o2, n2, r2, z2, hA, rfl⟩, hb⟩
  have S2 := hide (((unhide S1).keep hb).mono hb.size)
  have B2 := hide (bTr (unhide B1) hb)
  have HA := hide hA
  clear hb hA S1 B1
  have RA := hide (RowIs.new w2 #[.string o2, .int .i64 n2, .int .i64 (r2 : Int), .int .i64 (z2 : Int)] 28)
  have S2a := hide (((unhide S2).keep (bAl (Below.refl _ _) (.cells #[.string o2, .int .i64 n2, .int .i64 (r2 : Int), .int .i64 (z2 : Int)] 28))).mono (show w2.heap.size ≤ (w2.alloc (.cells #[.string o2, .int .i64 n2, .int .i64 (r2 : Int), .int .i64 (z2 : Int)] 28)).heap.size by simp))
  have B2a := hide (bAl (unhide B2) (.cells #[.string o2, .int .i64 n2, .int .i64 (r2 : Int), .int .i64 (z2 : Int)] 28))
  obtain ⟨W, hW⟩ : ∃ W, W = w2.alloc (.cells #[.string o2, .int .i64 n2, .int .i64 (r2 : Int), .int .i64 (z2 : Int)] 28) := ⟨_, rfl⟩
  rw [← hW] at RA S2a B2a
  have HW := hide hW.symm
  have x0 := (unhide RA).at (o := 0) (v := .string o2) rfl
  have x1 := (unhide RA).at (o := 1) (v := .int .i64 n2) rfl
  have x2 := (unhide RA).at (o := 2) (v := .int .i64 (r2 : Int)) rfl
  have x3 := (unhide RA).at (o := 3) (v := .int .i64 (z2 : Int)) rfl
  have xz := (unhide RA).lt
  obtain ⟨g, hg⟩ : ∃ g, g = w2.heap.size := ⟨_, rfl⟩
  have HG := hide hg.symm
  rw [← hg] at RA x0 x1 x2 x3 xz
  have SD := hide (show SlB W.drew W.drew.heap.size a1 ln D from (unhide S2a).keep (show Below W.heap.size W W.drew from ⟨rfl, rfl, rfl, Nat.le_refl _, fun _ _ => rfl⟩))
  clear S2 B2 hW hg
  go_wp2_with fail
  rw [unhide HW, unhide HG]
  go_region_with (go_at_call 6; refine (sAnswerChallenge_any s o a1 ln c1 D n W.drew (unhide SD)).mono ?_; rintro e w3 ⟨⟨o3, n3, r3, z3, hA3, rfl⟩, hb⟩; obtain ⟨e1, e2, e3, e4⟩ := (unhide HA).one hA3; subst e1 e2 e3 e4; have hb' : Below W.heap.size W w3 := ⟨hb.os, hb.tape, hb.output, hb.size, hb.block⟩; have RA3 := hide ((unhide RA).keep hb'); have S3 := hide (((unhide S2a).keep hb').mono hb'.size); have B3 := hide (bTr (unhide B2a) hb'); have y0 := (unhide RA3).at (o := 0) (v := .string o2) rfl; have y1 := (unhide RA3).at (o := 1) (v := .int .i64 n2) rfl; have y2 := (unhide RA3).at (o := 2) (v := .int .i64 (r2 : Int)) rfl; have y3 := (unhide RA3).at (o := 3) (v := .int .i64 (z2 : Int)) rfl; have yz := (unhide RA3).lt; clear hb hb' hA3)
  all_goals
    clear RA S2a B2a SD x0 x1 x2 x3 xz HW HG
    by_cases q : ansOk s o.size D.length n
    · obtain ⟨rfl, rfl, hch⟩ := chA_of (unhide HA) q
      have CH := hide hch
      have ne : ¬ o2 = ⟨#[]⟩ := by intro e; have := hch.ask.1.1; rw [e] at this; exact absurd this (by decide)
      clear q HA hch
      by_cases hn0 : n2 = 0
      · go_wp2_with fail
        all_goals go_ret
        all_goals exact ⟨rfl, unhide B3⟩
      · have eL := unhide hL
        subst eL
        have q1 := iCheckAnswer_any ⟨o2, n2, r2, z2, pubOf s, o2, n2 - 1, a1, D.length, c1⟩ D true true
        have q2 := iCheckAnswer_any ⟨o2, n2, r2, z2, pubOf s, o2, n2, a1, D.length, c1⟩ D true true
        rw [ck_first (unhide CH) hn0, outA_zero] at q1
        rw [ck_again (unhide CH), outA_not _ (by decide)] at q2
        have q3 := iCheckAnswer_any ⟨o2, n2, r2, z2, pubOf s, o2 ++ ⟨#[120]⟩, n2 - 1, a1, D.length, c1⟩ D true true
        have oz3 : (o2 ++ (⟨#[120]⟩ : ByteArray)).size = o2.size + 1 := by rw [ByteArray.size_append]; rfl
        rw [ck_other (unhide CH) hn0 oz3 (by omega), outA_not _ (by decide)] at q3
        have q3 := hide (fun w => q3 w (unhide CH).pub (fun nn h => (unhide CH).ver nn h))
        have q1 := hide (fun w => q1 w (unhide CH).pub (fun nn h => (unhide CH).ver nn h))
        have q2 := hide (fun w => q2 w (unhide CH).pub (fun nn h => (unhide CH).ver nn h))
        dsimp only at q1 q2 q3
        go_wp2_with fail
        refine (sPublicOf_any s _).mono ?_
        rintro e w4 ⟨rfl, rfl⟩
        generalize pubOf s = pk at q1 q2 q3 ⊢
        have C5 := hide (bAl (Below.refl w3.heap.size w3) (.cells #[.int .i64 (pk : Int), .string o2, .int .i64 (n2 - 1)] 32))
        have KR := hide (RowIs.new w3 #[.int .i64 (pk : Int), .string o2, .int .i64 (n2 - 1)] 32)
        go_wp2_with fail
        refine (unhide q1 _ (((unhide S3).keepB (unhide C5)).mono (unhide C5).size) ((unhide HM).keepB (bTr (unhide B3) (unhide C5)) h00)).mono ?_
        rintro e w5 ⟨rfl, hb⟩
        have C6 := hide (bTr (unhide C5) hb)
        have KR6 := hide ((unhide KR).keep hb)
        have AR6 := hide ((unhide RA3).keep (unhide C6))
        clear hb C5 KR q1 y0 y1 y2 y3 yz
        have y0 := (unhide AR6).at (o := 0) (v := .string o2) rfl
        have y1 := (unhide AR6).at (o := 1) (v := .int .i64 n2) rfl
        have y2 := (unhide AR6).at (o := 2) (v := .int .i64 (r2 : Int)) rfl
        have y3 := (unhide AR6).at (o := 3) (v := .int .i64 (z2 : Int)) rfl
        have yz := (unhide AR6).lt
        have C7 := hide (bAl (unhide C6) (.cells #[.int .i64 (pk : Int), .string o2, .int .i64 n2] 32))
        have KR7 := hide ((unhide KR6).keep (bAl (Below.refl _ _) (.cells #[.int .i64 (pk : Int), .string o2, .int .i64 n2] 32)))
        go_wp2_with fail
        refine (unhide q2 _ (((unhide S3).keepB (unhide C7)).mono (unhide C7).size) ((unhide HM).keepB (bTr (unhide B3) (unhide C7)) h00)).mono ?_
        rintro e w8 ⟨rfl, hb⟩
        have C8 := hide (bTr (unhide C7) hb)
        have KR8 := hide ((unhide KR7).keep hb)
        have AR8 := hide ((unhide RA3).keep (unhide C8))
        clear hb C6 C7 KR6 KR7 AR6 q2 y0 y1 y2 y3 yz
        have y0 := (unhide AR8).at (o := 0) (v := .string o2) rfl
        have y1 := (unhide AR8).at (o := 1) (v := .int .i64 n2) rfl
        have y2 := (unhide AR8).at (o := 2) (v := .int .i64 (r2 : Int)) rfl
        have y3 := (unhide AR8).at (o := 3) (v := .int .i64 (z2 : Int)) rfl
        have yz := (unhide AR8).lt
        have k0 := (unhide KR8).at (o := 0) (v := .int .i64 (pk : Int)) rfl
        have k1 := (unhide KR8).at (o := 1) (v := .string o2) rfl
        have k2 := (unhide KR8).at (o := 2) (v := .int .i64 (n2 - 1)) rfl
        have kz := (unhide KR8).lt
        have kf := (unhide KR8).froz 1
        have C9 := hide ((unhide C8).setCell (p := ⟨w3.heap.size, 1, none⟩) (Nat.le_refl w3.heap.size) (.string (o2 ++ ⟨#[120]⟩)))
        have C10 := hide (bAl (unhide C9) (.cells #[.int .i64 0, .string ⟨#[]⟩, .int .i64 0] 32))
        have AR9 := hide ((unhide RA3).keep (unhide C9))
        have v0 := (unhide AR9).at (o := 0) (v := .string o2) rfl
        have v1 := (unhide AR9).at (o := 1) (v := .int .i64 n2) rfl
        have v2 := (unhide AR9).at (o := 2) (v := .int .i64 (r2 : Int)) rfl
        have v3 := (unhide AR9).at (o := 3) (v := .int .i64 (z2 : Int)) rfl
        have v4 := (unhide AR9).lt
        go_wp2_with fail
        refine (unhide q3 _ (((unhide S3).keepB (unhide C10)).mono (unhide C10).size) ((unhide HM).keepB (bTr (unhide B3) (unhide C10)) h00)).mono ?_
        rintro e w10 ⟨rfl, hb⟩
        have B10 := hide (bTr (unhide B3) (bTr (unhide C10) hb))
        clear hb
        go_wp2_with fail
        go_ret
        exact ⟨rfl, bAl (unhide B10) _⟩
    · obtain ⟨rfl, rfl, rfl, rfl⟩ := (unhide HA).no q
      clear q HA
      go_wp2_with fail
      go_ret
      exact ⟨rfl, unhide B3⟩
end Go.Proofs.YtlgloffdinnpfaaDoor.D
