/- What Join makes of shares that were split. -/
import Derived.Test.YtoakdagncfaplaaDoorPsL
import Derived.Test.YtoakdagncfaplaaDoorPsS
namespace Go.Proofs.YtoakdagncfaplaaDoor.D
open Go.RowKit

def elS (s : Int) (l : List UInt8) (k j : Nat) : ShareT := ⟨(j : Int) + 1, pev ((j : Int) + 1) (cof s l k) % 1073741789⟩
theorem shs_el (s : Int) (l : List UInt8) (k n : Nat) : shs s (k + 1) l n = (List.range n).map (elS s l k) := rfl
def toP (l : List ShareT) : List (Int × Int) := l.map fun q => (q.f0, q.f1)
theorem toP_len (l : List ShareT) : (toP l).length = l.length := by simp [toP]
theorem sh_row {w : World} {b off : Nat} {l : List ShareT} (h : ShareRow w b off l) : ShRow w b off (toP l) :=
  ⟨h.z, fun i hi => by have := h.c0 i (by simpa [toP] using hi); simpa [toP] using this, fun i hi => by have := h.c1 i (by simpa [toP] using hi); simpa [toP] using this⟩
theorem join_el (s : Int) (hs : 0 ≤ s ∧ s < 1073741789) (l : List UInt8) (k : Nat) (J : List Nat) (hJ : J.Nodup) (h20 : ∀ j ∈ J, j < 20) (hk : k + 1 ≤ J.length) (hl : J.length ≤ 20) {x : Int} {ok : Bool} (h : JoinIs (toP (J.map (elS s l k))) x ok) : ok = true ∧ x = s := by
  have hlen : (toP (J.map (elS s l k))).length = J.length := by simp [toP]
  have hmem : ∀ q ∈ toP (J.map (elS s l k)), 1 ≤ q.1 ∧ q.1 ≤ 20 ∧ q.2 = pev q.1 (cof s l k) % 1073741789 := by
    intro q hq
    simp only [toP, List.map_map, List.mem_map, Function.comp] at hq
    obtain ⟨j, hj, rfl⟩ := hq
    have := h20 j hj
    simp only [elS]
    exact ⟨by omega, by omega, trivial⟩
  have hd : (toP (J.map (elS s l k))).Pairwise (fun a b => a.1 ≠ b.1) := by
    simp only [toP, List.map_map]
    refine List.pairwise_map.2 ?_
    refine List.Pairwise.imp (fun {a b} hab => ?_) hJ
    simp only [Function.comp, elS]
    omega
  have hO : OkTo (toP (J.map (elS s l k))) (toP (J.map (elS s l k))).length := by
    intro i hi _
    have hq := hmem _ (List.getElem_mem hi)
    refine ⟨shareB_iff.2 ⟨hq.1, by omega, ?_, ?_⟩, ?_⟩
    · rw [hq.2.2]; exact Int.emod_nonneg _ (by decide)
    · rw [hq.2.2]; exact Int.emod_lt_of_pos _ (by decide)
    · rw [List.any_eq_false]
      intro q hq'
      obtain ⟨j, hj, ej⟩ := List.getElem_of_mem hq'
      simp only [List.length_take] at hj
      rw [List.getElem_take] at ej
      have := List.pairwise_iff_getElem.1 hd j i (by omega) hi (by omega)
      rw [ej] at this
      simpa using this
  have hr := join_secret s hs l k _ (by rw [hlen]; exact hk) hmem hd
  rcases h with ⟨h1, _, h3⟩ | ⟨_, h2, _⟩
  · exact ⟨h1, by rw [h3]; exact hr⟩
  · exact absurd ⟨by rw [hlen]; omega, by rw [hlen]; exact hl, hO⟩ h2
theorem own_sh {w : World} {base : Nat} {v : Value} {l : List ShareT} (h : w.ownsRow base 28 2 v l.length (SharesV l)) (h1 : 1 ≤ l.length) : ∃ g cap, v = .slice (some ⟨g, 0, none⟩) l.length cap ∧ l.length ≤ cap ∧ ShareRow w g 0 l := by
  obtain ⟨a, cap, e, hs⟩ := own_Share h
  rcases h.2 with ⟨_, e0⟩ | ⟨g, c, cur, e2, _, hh, h3, _⟩
  · omega
  · rw [e2] at e
    simp only [Value.slice.injEq, true_and] at e
    obtain ⟨rfl, rfl⟩ := e
    refine ⟨g, c, e2, h3, ?_⟩
    rcases hs.2 with hn | ⟨b, off, e3, r⟩
    · rw [hn] at h1; simp at h1
    · simp only [Option.some.injEq, Addr.mk.injEq] at e3
      obtain ⟨rfl, rfl, _⟩ := e3
      exact r
theorem ring_nodup (t n k : Nat) (hk : k ≤ n) : ((List.range k).map fun i => (t + i) % n).Nodup := by
  refine List.pairwise_map.2 ?_
  refine List.Pairwise.imp_of_mem (fun {a b} ha hb hab => ?_) (List.pairwise_lt_range)
  intro e
  have hb' := List.mem_range.1 hb
  have := Nat.sub_mod_eq_zero_of_mod_eq e.symm
  rw [show t + b - (t + a) = b - a by omega, Nat.mod_eq_of_lt (by omega)] at this
  omega
def rg (t n k : Nat) : List Nat := (List.range k).map fun i => (t + i) % n
theorem rg_snoc (t n k : Nat) : rg t n (k + 1) = rg t n k ++ [(t + k) % n] := by simp [rg, List.range_succ]
theorem rg_len (t n k : Nat) : (rg t n k).length = k := by simp [rg]
theorem SplIs.out {s many need : Int} {l : List UInt8} {r : List ShareT} (h : SplIs s many need l r) (h0 : r.length ≠ 0) : ∃ mn nd : Nat, many = (mn : Int) ∧ need = ((nd + 1 : Nat) : Int) ∧ nd + 1 ≤ mn ∧ mn ≤ 20 ∧ (0 ≤ s ∧ s < 1073741789) ∧ r = (List.range mn).map (elS s l nd) := by
  rcases h with ⟨⟨h1, h2, h3, h4, h5, h6⟩, rfl⟩ | ⟨_, rfl⟩
  · refine ⟨many.toNat, (need - 1).toNat, by omega, by omega, by omega, by omega, ⟨h1, h2⟩, ?_⟩
    rw [← shs_el, show (need - 1).toNat + 1 = need.toNat by omega]
  · exact absurd rfl h0
end Go.Proofs.YtoakdagncfaplaaDoor.D
