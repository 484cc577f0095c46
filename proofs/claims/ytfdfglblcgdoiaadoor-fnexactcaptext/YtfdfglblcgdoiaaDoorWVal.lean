/- WVal, ported from seat 1a. -/
import Derived.Test.YtfdfglblcgdoiaaDoorWValJ
namespace Go.Proofs.YtfdfglblcgdoiaaDoor.V
open Go.RowKit

theorem zeroA_zero : zeroA ⟨0, 0, ⟨#[]⟩, ⟨#[]⟩⟩ := ⟨rfl, rfl, by rw [ByteArray.toList_eq], by rw [ByteArray.toList_eq]⟩

end Go.Proofs.YtfdfglblcgdoiaaDoor.V
