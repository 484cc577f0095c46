/- Bytes that came in. -/
import Derived.Test.YtfdfglblcgdoiaaDoorDByt
namespace Go.Proofs.YtfdfglblcgdoiaaDoor.D
open Go.RowKit

theorem u8_of (n : Int) (h : (Lit.int .u8 n).wf = true) : ((UInt8.ofNat n.toNat).toNat : Int) = n := by
  have hb : 0 ≤ n ∧ n ≤ 255 := by
    simp [Lit.wf, IntKind.min, IntKind.max, IntKind.signed, IntKind.bits] at h
    omega
  simp only [UInt8.toNat_ofNat']
  omega
theorem bytes_in {w : World} {a : Option Addr} {len cap : Nat} {zs : List Int} (h : (a = none ∧ len = 0 ∧ cap = 0 ∧ zs = []) ∨
    ∃ x, a = some x ∧ len ≤ cap ∧ cap ≤ maxLen ∧ zs.length = cap ∧ (∀ i, i < zs.length → w.cell? (x.add i) = some (.int .u8 (zs.getD i 0))) ∧ ∀ n ∈ zs, (Lit.int .u8 n).wf = true) :
    (∃ l : List UInt8, SlB w w.heap.size a len l) ∧ len ≤ cap ∧ cap ≤ maxLen := by
  rcases h with ⟨rfl, rfl, rfl, rfl⟩ | ⟨x, rfl, hl, hm, hz, hc, hwf⟩
  · exact ⟨⟨[], rfl, .inl rfl⟩, Nat.le_refl _, Nat.zero_le _⟩
  refine ⟨?_, hl, hm⟩
  rcases Nat.eq_zero_or_pos len with h0 | h0
  · exact ⟨[], by rw [h0]; rfl, .inl rfl⟩
  have e0 := hc 0 (by omega)
  have hs : x.spot = none ∧ x.block < w.heap.size := by
    rw [show x.add 0 = x from rfl] at e0
    constructor
    · exact World.cell?_spot e0
    · apply Classical.byContradiction
      intro hn
      unfold World.cell? at e0
      rw [Array.getElem?_eq_none (by omega)] at e0
      simp at e0
  obtain ⟨blk, off, spot⟩ := x
  obtain ⟨hs1, hs2⟩ := hs
  simp only at hs1 hs2
  subst hs1
  refine ⟨(zs.take len).map fun n => UInt8.ofNat n.toNat, by simp; omega, .inr ⟨blk, off, rfl, hs2, hs2, fun i hi => ?_⟩⟩
  have hi' : i < zs.length := by simp at hi; omega
  have h1 := hc i hi'
  have e : (⟨blk, off, none⟩ : Addr).add i = ⟨blk, off + i, none⟩ := by
    simp only [Addr.add]
    split
    · next h => subst h; rfl
    · rfl
  rw [e] at h1
  rw [h1]
  have hw := hwf zs[i] (List.getElem_mem hi')
  simp only [List.getElem_map, List.getElem_take, byteV]
  rw [u8_of _ hw, List.getD_eq_getElem?_getD, List.getElem?_eq_getElem hi']
  rfl
end Go.Proofs.YtfdfglblcgdoiaaDoor.D
