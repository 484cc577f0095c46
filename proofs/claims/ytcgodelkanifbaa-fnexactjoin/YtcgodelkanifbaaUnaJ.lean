/- impl.Unarmor. -/
import Derived.Test.YtcgodelkanifbaaUnaI
namespace Go.Proofs.Ytcgodelkanifbaa
open Go.RowKit

theorem letOf_inj {m n : Nat} (hm : m < 32) (hn : n < 32) (h : letOf m = letOf n) : m = n := by
  have h1 := letOf_idx m hm
  rw [h, letOf_idx n hn] at h1
  omega
theorem arm_inj {d e : List UInt8} (h : arm d = arm e) : d = e := by
  have hl : d.length = e.length := by
    have h1 := arm_len d
    rw [h, arm_len] at h1
    rw [← many_back d.length, ← many_back e.length, h1]
  have hv : ∀ i, i < many d.length → five d (5 * i) = five e (5 * i) := by
    intro i hi
    have h1 : i < (arm d).length := by rw [arm_len]; exact hi
    have h2 : i < (arm e).length := by rw [← h]; exact h1
    have e1 := arm_get d i h1
    have e2 := arm_get e i h2
    have e3 : (arm d)[i] = (arm e)[i] := by simp only [h]
    exact letOf_inj (five_lt _ _) (five_lt _ _) (by rw [← e1, ← e2, e3])
  have key : ∀ i, i ≤ many d.length → d.take (5 * i / 8) = e.take (5 * i / 8) ∧ pre d (8 * (5 * i / 8)) (5 * i % 8) = pre e (8 * (5 * i / 8)) (5 * i % 8) := by
    intro i
    induction i with
    | zero => intro _; exact ⟨rfl, rfl⟩
    | succ i ih =>
      intro hi
      obtain ⟨h1, h2⟩ := ih (by omega)
      have hf := hv i (by omega)
      have hX := pre_lt d (8 * (5 * i / 8)) (5 * i % 8)
      have hb : ((pre d (8 * (5 * i / 8)) (5 * i % 8) : Nat) : Int) % 2 ^ (5 * i % 8) = (pre d (8 * (5 * i / 8)) (5 * i % 8) : Nat) := by
        have : ((pre d (8 * (5 * i / 8)) (5 * i % 8) % 2 ^ (5 * i % 8) : Nat) : Int) = (pre d (8 * (5 * i / 8)) (5 * i % 8) : Nat) := by rw [Nat.mod_eq_of_lt hX]
        simpa using this
      have hb2 := hb
      rw [h2] at hb2
      by_cases hh : 5 * i % 8 < 3
      · have a1 := una_few d i _ (((pre d (8 * (5 * i / 8)) (5 * i % 8) : Nat) : Int) * 32 + (five d (5 * i) : Nat)) hh hb rfl
        have a2 := una_few e i _ (((pre d (8 * (5 * i / 8)) (5 * i % 8) : Nat) : Int) * 32 + (five d (5 * i) : Nat)) hh hb2 (by rw [h2, hf])
        rw [show 5 * (i + 1) / 8 = 5 * i / 8 by omega, show 5 * (i + 1) % 8 = 5 * i % 8 + 5 by omega]
        exact ⟨h1, by rw [a1] at a2; exact_mod_cast a2⟩
      · have a1 := una_whole d i _ (((pre d (8 * (5 * i / 8)) (5 * i % 8) : Nat) : Int) * 32 + (five d (5 * i) : Nat)) (by omega) hb rfl
        have a2 := una_whole e i _ (((pre d (8 * (5 * i / 8)) (5 * i % 8) : Nat) : Int) * 32 + (five d (5 * i) : Nat)) (by omega) hb2 (by rw [h2, hf])
        rw [show 5 * (i + 1) / 8 = 5 * i / 8 + 1 by omega, show 5 * (i + 1) % 8 = 5 * i % 8 - 3 by omega]
        have hq : 5 * i / 8 < d.length := by have := many_back d.length; omega
        have hq2 : 5 * i / 8 < e.length := by omega
        refine ⟨?_, by have := a1.2.symm.trans a2.2; exact_mod_cast this⟩
        have hp : pre d (8 * (5 * i / 8)) 8 = pre e (8 * (5 * i / 8)) 8 := by have := a1.1.symm.trans a2.1; exact_mod_cast this
        rw [byte8 d _ hq, byte8 e _ hq2] at hp
        rw [List.take_succ_eq_append_getElem hq, List.take_succ_eq_append_getElem hq2, h1, UInt8.toNat_inj.1 hp]
  have := (key (many d.length) (Nat.le_refl _)).1
  rwa [many_back, List.take_length, hl, List.take_length] at this

/-- What is told of a text. -/
def UnaRes (t D : List UInt8) (ok : Bool) : Prop := (ok = true ∧ arm D = t ∧ D.length ≤ 20000) ∨ (ok = false ∧ D = [] ∧ ∀ d : List UInt8, d.length ≤ 20000 → arm d ≠ t)
theorem UnaRes.one {t D E : List UInt8} {ok fine : Bool} (h : UnaRes t D ok) (k : UnaRes t E fine) : D = E ∧ ok = fine := by
  rcases h with ⟨h1, h2, h3⟩ | ⟨h1, h2, h3⟩ <;> rcases k with ⟨k1, k2, k3⟩ | ⟨k1, k2, k3⟩
  · exact ⟨arm_inj (by rw [h2, k2]), by rw [h1, k1]⟩
  · exact absurd h2 (k3 D h3)
  · exact absurd k2 (h3 E k3)
  · exact ⟨by rw [h2, k2], by rw [h1, k1]⟩
theorem una_of {t D : List UInt8} (hg : Guess t D) : (armD D = t → UnaRes t D true) ∧ (armD D ≠ t → UnaRes t [] false) := by
  constructor
  · intro h
    unfold armD at h
    split at h
    · exact .inl ⟨rfl, h, by assumption⟩
    · have := hg [] (by rw [← h]; rfl)
      subst this
      exact .inl ⟨rfl, by rw [← h]; rfl, by simp⟩
  · intro h
    refine .inr ⟨rfl, rfl, fun d hd e => h ?_⟩
    have := hg d e.symm
    subst this
    unfold armD
    rw [if_pos hd, e]

set_option maxHeartbeats 1000000 in
theorem iUnarmor_any (s : ByteArray) (w : World) (hs : s.size ≤ 1048576) :
    Calls Try.prog 11 #[.string s] w fun e w' => ∃ v D ok, e = .returned (.tuple #[v, .bool ok]) ∧ D.length ≤ 1048576 ∧ UnaRes s.data.toList D ok ∧ w'.ownsRow w.heap.size 5 1 v D.length (D.map byteV) ∧ Below w.heap.size w w' := by
  go_enter Try.func11, Try.ntmps11
  go_wp2_with fail
  refine (guess_any s _ hs).mono ?_
  rintro e w1 ⟨v, D, rfl, hl, hg, hown, hb1⟩
  obtain ⟨a, cap, rfl, hsl⟩ := own_sl hown
  have hcap : D.length ≤ cap ∧ cap ≤ maxLen := by
    rcases hown.2 with ⟨e, e2⟩ | ⟨g, c, cur, e, _, _, h3, h4, _⟩
    · simp only [Value.slice.injEq] at e; unfold maxLen; omega
    · simp only [Value.slice.injEq, true_and] at e; rw [e.2]; exact ⟨h3, h4⟩
  have HC := hide hcap
  have U := hide (una_of hg)
  have HO := hide hown
  have HB := hide hb1
  have HS := hide hsl
  have hl' : D.length ≤ 1048576 := by omega
  clear hcap hg hown hb1 hsl hl
  go_wp2_with fail
  refine (iArmor_any a D.length cap D _ (Nat.le_trans (unhide HC).1 (unhide HC).2) (unhide HC).1 (unhide HC).2 (unhide HS)).mono ?_
  rintro e w2 ⟨rfl, hb2⟩
  have HO2 := hide (own_keep (unhide HO) hb2)
  have HB2 := hide (bTr (unhide HB) hb2)
  clear hb2 HO HB HS
  cases hq : (!armD D == s.toList)
  · have R := hide ((unhide U).1 (by rw [← Lib.toList_data s]; simpa using hq))
    go_wp2_with fail
    go_ret2
    exact ⟨_, D, true, rfl, hl', unhide R, unhide HO2, unhide HB2⟩
  · have R := hide ((unhide U).2 (by rw [← Lib.toList_data s]; simpa using hq))
    go_wp2_with fail
    go_ret2
    exact ⟨_, [], false, rfl, by simp, unhide R, World.ownsRow_nil _ _ _ _, unhide HB2⟩
end Go.Proofs.Ytcgodelkanifbaa
