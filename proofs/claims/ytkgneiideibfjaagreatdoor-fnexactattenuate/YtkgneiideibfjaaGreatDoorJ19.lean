/- WValJ, WVal, one behind the other. -/
import Derived.Test.YtkgneiideibfjaaGreatDoorJ18
/- WValJ, ported from seat 1a. -/
namespace Go.Proofs.YtkgneiideibfjaaGreatDoor.V
open Go.RowKit

end Go.Proofs.YtkgneiideibfjaaGreatDoor.V
/- WVal, ported from seat 1a. -/
namespace Go.Proofs.YtkgneiideibfjaaGreatDoor.V
open Go.RowKit

theorem zeroA_zero : zeroA ⟨0, 0, ⟨#[]⟩, ⟨#[]⟩⟩ := ⟨rfl, rfl, by rw [ByteArray.toList_eq], by rw [ByteArray.toList_eq]⟩

end Go.Proofs.YtkgneiideibfjaaGreatDoor.V
