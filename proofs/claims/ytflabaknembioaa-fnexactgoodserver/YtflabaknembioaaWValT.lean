/- WValT, ported from seat 1a. -/
import Derived.Test.YtflabaknembioaaWValS
namespace Go.Proofs.Ytflabaknembioaa.V
open Go.RowKit

theorem toList_nil {t : ByteArray} (h : t.toList = []) : t = ⟨#[]⟩ := by
  rw [ByteArray.toList_eq] at h
  apply ByteArray.ext
  exact Array.toList_eq_nil_iff.1 h
theorem zeroA_eq {A : AtomT} (h : zeroA A) : A = ⟨0, 0, ⟨#[]⟩, ⟨#[]⟩⟩ := by
  obtain ⟨x, n, t, y⟩ := A
  obtain ⟨h1, h2, h3, h4⟩ := h
  simp only at h1 h2 h3 h4
  rw [h1, h2, toList_nil h3, toList_nil h4]

end Go.Proofs.Ytflabaknembioaa.V
