/- PassCheck on both sides. -/
import Derived.Test.YteoaglemkogdaaaDoorKPa
import Derived.Lib.BufferRead
namespace Go.Proofs.YteoaglemkogdaaaDoor.D
set_option maxRecDepth 20000
open Go.RowKit

theorem conv_sl {w : World} {B : Nat} {a : Option Addr} {len : Nat} {l : List UInt8} (h : SlB w B a len l) (cap : Nat) : (convert 22 9 (.slice a len cap)).run Tryd.prog w = .ok (.string ⟨l.toArray⟩) w := by
  rcases h.2 with rfl | ⟨b, off, rfl, _, r⟩
  · obtain rfl : len = 0 := h.1
    cases a with
    | none => exact Go.Lib.run_convert_nil_bytes w 22 9 5 cap Tryd.underlying22 Tryd.underlying5 Tryd.underlying9
    | some a => exact run_convert_bytes_back w 22 9 5 a cap [] Tryd.underlying22 Tryd.underlying5 Tryd.underlying9 (fun j hj => absurd hj (Nat.not_lt_zero _))
  · rw [h.1]
    refine run_convert_bytes_back w 22 9 5 _ cap l Tryd.underlying22 Tryd.underlying5 Tryd.underlying9 (fun j hj => ?_)
    have := r.c j hj
    rw [show (⟨b, off, none⟩ : Addr).add j = ⟨b, off + j, none⟩ by simp only [Addr.add]; split <;> simp_all]
    exact this
theorem equal_any (a1 a2 : Option Addr) (n1 c1 n2 c2 : Nat) (l m : List UInt8) (w : World) (h1 : SlB w w.heap.size a1 n1 l) (h2 : SlB w w.heap.size a2 n2 m) :
    Calls Tryd.prog 20 #[.slice a1 n1 c1, .slice a2 n2 c2] w fun e w' => e = .returned (.bool (decide (l = m))) ∧ w = w' := by
  have e1 := conv_sl h1 c1
  have e2 := conv_sl h2 c2
  go_enter Tryd.func20, Tryd.ntmps20
  go_wp2_with fail
  go_ret
  exact ⟨congrArg (fun b => Ending.returned (.bool b)) (by rw [Bool.eq_iff_iff]; simp), rfl⟩
/-- Whether a pass is taken by what was stored. -/
def chk (p l m : List UInt8) (n : Int) : Bool := decide (hashD p l n ≠ [] ∧ hashD p l n = m)
set_option maxHeartbeats 1000000 in
theorem sPassCheck_any (a1 a2 : Option Addr) (n1 c1 n2 c2 : Nat) (l m : List UInt8) (n : Int) (p : ByteArray) (w : World) (hp : p.size ≤ 1048576) (hn1 : n1 ≤ 1048576) (h1 : SlB w w.heap.size a1 n1 l) (h2 : SlB w w.heap.size a2 n2 m) :
    Calls Tryd.prog 12 #[.agg #[.slice a1 n1 c1, .int .i64 n, .slice a2 n2 c2], .string p] w fun e w' => e = .returned (.bool (chk p.data.toList l m n)) ∧ Below w.heap.size w w' := by
  obtain ⟨W, hW⟩ : ∃ W, W = w.alloc (.cells #[.slice a1 n1 c1, .int .i64 n, .slice a2 n2 c2] 32) := ⟨_, rfl⟩
  have B0 : Below w.heap.size w W := by rw [hW]; exact bAl (Below.refl _ _) _
  have R0 := hide (show RowIs W w.heap.size #[.slice a1 n1 c1, .int .i64 n, .slice a2 n2 c2] 32 by rw [hW]; exact RowIs.new _ _ _)
  have S1 := hide ((h1.keep B0).mono B0.size)
  have S2 := hide ((h2.keep B0).mono B0.size)
  have HB := hide B0
  have HW := hide hW.symm
  clear h1 h2 hW B0
  go_enter Tryd.func12, Tryd.ntmps12
  go_wp2_with fail
  rw [unhide HW]
  refine (sPassHash_any p a1 n1 c1 l n W hp hn1 (unhide S1)).mono ?_
  rintro e w2 ⟨v, D, hD, rfl, ho, hb⟩
  have T2 := hide (((unhide S2).keep hb).mono hb.size)
  have R2 := (unhide R0).keep hb
  have x0 := R2.at (o := 0) (v := .slice a1 n1 c1) rfl
  have x1 := R2.at (o := 1) (v := .int .i64 n) rfl
  have x2 := R2.at (o := 2) (v := .slice a2 n2 c2) rfl
  have xz := R2.lt
  have HB2 := hide (bTr (unhide HB) hb)
  have HD := hide (show chk p.data.toList l m n = decide (D ≠ [] ∧ D = m) by rw [unhide hD]; rfl)
  clear R2 R0 S1 S2 hb hD HW
  by_cases hE : D = []
  · subst hE
    obtain ⟨a3, c3, rfl, hs3⟩ := own_sl ho
    clear ho hs3
    go_wp2_with fail
    go_ret
    exact ⟨by rw [unhide HD]; simp, unhide HB2⟩
  · have hl : 0 < D.length := List.length_pos_iff.2 hE
    obtain ⟨a3, c3, rfl, hs3⟩ := own_sl ho
    have e1 := conv_sl hs3 c3
    have e2 := conv_sl (unhide T2) c2
    clear ho hs3
    go_wp2_with fail
    go_ret
    refine ⟨congrArg (fun b => Ending.returned (.bool b)) ?_, unhide HB2⟩
    rw [unhide HD, Bool.eq_iff_iff]; simp [hE]
set_option maxHeartbeats 1000000 in
theorem iPassCheck_any (a1 a2 : Option Addr) (n1 c1 n2 c2 : Nat) (l m : List UInt8) (n : Int) (p : ByteArray) (w : World) (hp : p.size ≤ 1048576) (hn1 : n1 ≤ 1048576) (h1 : SlB w w.heap.size a1 n1 l) (h2 : SlB w w.heap.size a2 n2 m) (hM : Mults w) :
    Calls Tryd.prog 14 #[.agg #[.slice a1 n1 c1, .int .i64 n, .slice a2 n2 c2], .string p] w fun e w' => e = .returned (.bool (chk p.data.toList l m n)) ∧ Below w.heap.size w w' := by
  obtain ⟨W, hW⟩ : ∃ W, W = w.alloc (.cells #[.slice a1 n1 c1, .int .i64 n, .slice a2 n2 c2] 32) := ⟨_, rfl⟩
  have B0 : Below w.heap.size w W := by rw [hW]; exact bAl (Below.refl _ _) _
  have R0 := hide (show RowIs W w.heap.size #[.slice a1 n1 c1, .int .i64 n, .slice a2 n2 c2] 32 by rw [hW]; exact RowIs.new _ _ _)
  have S1 := hide ((h1.keep B0).mono B0.size)
  have S2 := hide ((h2.keep B0).mono B0.size)
  have HB := hide B0
  have HW := hide hW.symm
  have HM := hide (hM.keepB (unhide HB) hM.1)
  clear h1 h2 hW B0
  go_enter Tryd.func14, Tryd.ntmps14
  go_wp2_with fail
  rw [unhide HW]
  refine (iPassHash_nil p a1 n1 c1 l n W hp hn1 (unhide S1) (unhide HM)).mono ?_
  rintro e w2 ⟨v, D, hD, rfl, ho, hb, hnil⟩
  have T2 := hide (((unhide S2).keep hb).mono hb.size)
  have R2 := (unhide R0).keep hb
  have x0 := R2.at (o := 0) (v := .slice a1 n1 c1) rfl
  have x1 := R2.at (o := 1) (v := .int .i64 n) rfl
  have x2 := R2.at (o := 2) (v := .slice a2 n2 c2) rfl
  have xz := R2.lt
  have HB2 := hide (bTr (unhide HB) hb)
  have HD := hide (show chk p.data.toList l m n = decide (D ≠ [] ∧ D = m) by rw [unhide hD]; rfl)
  clear R2 R0 S1 S2 hb hD HW
  by_cases hE : D = []
  · subst hE
    obtain rfl : v = .slice none 0 0 := (unhide hnil).resolve_right (by simp)
    clear ho hnil
    go_wp2_with fail
    go_ret
    exact ⟨by rw [unhide HD]; simp, unhide HB2⟩
  · have hl : 0 < D.length := List.length_pos_iff.2 hE
    obtain ⟨b3, c3, rfl, zb, _, _, hs3⟩ := own_some ho hl
    have q := hide (equal_any _ a2 D.length c3 n2 c2 D m w2 hs3 (unhide T2))
    clear ho hs3 hnil
    go_wp2_with (go_at_call 20; refine (unhide q).mono ?_; rintro e w' ⟨rfl, rfl⟩)
    go_ret
    refine ⟨congrArg (fun b => Ending.returned (.bool b)) ?_, unhide HB2⟩
    rw [unhide HD, Bool.eq_iff_iff]; simp [hE]
end Go.Proofs.YteoaglemkogdaaaDoor.D
