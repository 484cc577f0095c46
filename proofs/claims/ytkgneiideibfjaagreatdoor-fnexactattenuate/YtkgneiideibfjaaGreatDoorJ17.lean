/- WValT, WValR, one behind the other. -/
import Derived.Test.YtkgneiideibfjaaGreatDoorJ16
/- WValT, ported from seat 1a. -/
namespace Go.Proofs.YtkgneiideibfjaaGreatDoor.V
open Go.RowKit

theorem toList_nil {t : ByteArray} (h : t.toList = []) : t = ⟨#[]⟩ := by
  rw [ByteArray.toList_eq] at h
  apply ByteArray.ext
  exact Array.toList_eq_nil_iff.1 h
theorem zeroA_eq {A : AtomT} (h : zeroA A) : A = ⟨0, 0, ⟨#[]⟩, ⟨#[]⟩⟩ := by
  obtain ⟨x, n, t, y⟩ := A
  obtain ⟨h1, h2, h3, h4⟩ := h
  simp only at h1 h2 h3 h4
  rw [h1, h2, toList_nil h3, toList_nil h4]

theorem AtomT.isGood (a : AtomT) (h : a.Ok) (w : World) : Calls Tryz.prog 35 #[.agg #[.int .i64 a.x, .int .i64 a.n, .string a.t, .string a.y]] w fun e w' => e = .returned (.bool a.good) ∧ Below w.heap.size w w' :=
  sGoodAtom_any a.x a.n a.t a.y w h.n9 h.t9 h.y9
end Go.Proofs.YtkgneiideibfjaaGreatDoor.V
/- WValR, ported from seat 1a. -/
namespace Go.Proofs.YtkgneiideibfjaaGreatDoor.V
open Go.RowKit

end Go.Proofs.YtkgneiideibfjaaGreatDoor.V
