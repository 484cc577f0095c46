/- What the law of RunRecovery wants. -/
import Derived.Test.YtoikjamafglilaaKWo
import Derived.Test.YtoikjamafglilaaKWm
import Derived.Test.YtoikjamafglilaaGMkX
import Derived.ProofKit
import Derived.Deep.Slices
namespace Go.Proofs.Ytoikjamafglilaa
set_option linter.unusedSimpArgs false
set_option linter.unusedVariables false
set_option maxRecDepth 20000
open Go.RowKit Go.Maps


open Go.ChangeShapes Go.WideShapes
abbrev SlTx (w : World) (a : Option Addr) (len : Nat) (l : List ByteArray) : Prop := V.SlS w a len l
def TxOk (q : ByteArray) : Prop := q.size ≤ maxLen
theorem szTxS_any (a : Option Addr) (len cap : Nat) (l : List ByteArray) (left : Int) (w : World) (h0 : 0 ≤ left) (h1 : left ≤ 1048576) (hl : len ≤ maxLen) (hs : SlTx w a len l) (hok : ∀ q ∈ l, TxOk q) :
    Calls Try.prog 4 #[.slice a len cap, .int .i64 left] w fun e w' => (∃ m : Int, -1 ≤ m ∧ m ≤ left ∧ (0 ≤ m → (len : Int) ≤ left) ∧ e = .returned (.int .i64 m)) ∧ Below w.heap.size w w' :=
  (V.szStringS_any a len cap l left w h0 h1 hl hs hok).mono fun _ _ ⟨h, e⟩ => ⟨h, by first | exact e | (subst e; exact Below.refl _ _)⟩
theorem eqTxS_same (a1 a2 : Option Addr) (len1 c1 len2 c2 : Nat) (l : List ByteArray) (w : World) (h1 : SlTx w a1 len1 l) (h2 : SlTx w a2 len2 l) (hm : len1 ≤ maxLen) :
    Calls Try.prog 11 #[.slice a1 len1 c1, .slice a2 len2 c2] w fun e w' => e = .returned (.bool true) ∧ Below w.heap.size w w' := V.eqStringS_same a1 a2 len1 c1 len2 c2 l w h1 h2 hm
theorem markTx_row (g n cap s : Nat) (C0 : Array Value) (w : World) (hn : n ≤ 1048576) (hs1 : 1 ≤ s) (hs9 : s ≤ 100000000) (hC : n * 1 ≤ C0.size) (hr : RowIs w g C0 9) :
    Calls Try.prog 13 #[.slice (some ⟨g, 0, none⟩) n cap, .int .i64 s] w fun e w' => e = .returned (.int .i64 ((s + n * 1 : Nat) : Int)) ∧ (∃ C, RowIs w' g C 9 ∧ MarkedStr C s n) ∧ w.grownBy w' (some g) := by
  rw [Nat.mul_one] at *
  exact markStr_row g n cap s C0 w hn hs1 hs9 hC hr
open V in
set_option maxHeartbeats 400000 in
theorem toTxS_own (a : Option Addr) (len cap : Nat) (l : List ByteArray) (w : World) (hl : len ≤ 1048576) (hs : SlTx w a len l) :
    Calls Try.prog 7 #[.slice a len cap] w fun e w' => e = .returned (.slice (some ⟨w.heap.size, 0, none⟩) len len) ∧ (∃ C, RowIs w' w.heap.size C 9 ∧ C.size = len * 1 ∧ V.StrRow w' w.heap.size 0 l) ∧ Below w.heap.size w w' := by
  obtain ⟨w1, C1, hrun, hb1, hr1, hC1⟩ := V.make_strings len w hl
  have HS := hide hs
  have HB1 := hide hb1
  have HR1 := hide hr1
  clear hs hb1 hr1
  go_enter Try.func7, Try.ntmps7
  go_wp2
  clear hrun
  go_loopw [4] (fun i w' => ∃ (k : Nat) (C : Array Value), k ≤ len ∧ i = .int .i64 k ∧ Hid (Below w.heap.size w w') ∧ Hid (V.RowIs w' w.heap.size C 9) ∧ Hid (C.size = len) ∧ Hid (V.FilledS C l k)) (fun i _ => len - (intOf i).toNat)
  case atStart => exact ⟨0, C1, Nat.zero_le _, rfl, HB1, HR1, hide hC1, hide (fun i _ h => absurd h (Nat.not_lt_zero _))⟩
  case round =>
    obtain ⟨k, C, hk, rfl, hb, hr, hC, hF⟩ := hrel
    by_cases hlt : k < len
    · obtain ⟨b, off, rfl, hrow⟩ := ((unhide HS).keep (unhide hb)).at hlt
      have hk' : k < l.length := by rw [← (unhide HS).1]; exact hlt
      have c0 := hrow.c k hk'
      have fr := (unhide hr).froz k
      have hck : k < C.size := by rw [unhide hC]; exact hlt
      have c1 := (unhide hr).cell k
      rw [Array.getElem?_eq_getElem hck] at c1
      have hz : w.heap.size < wr.heap.size := (unhide hr).lt
      have hF' := hide ((unhide hF).set hk' (by rw [unhide hC]; exact (unhide HS).1))
      clear hrow hC1
      generalize l[k] = A at c0 hF'
      generalize C[k] = D at c1
      go_wp2_with fail
      exact ⟨⟨k + 1, C.setIfInBounds k (.string A), by omega, by go_num, hide ((unhide hb).setCell (Nat.le_refl _) _), hide ((unhide hr).set k _), hide (by rw [Array.size_setIfInBounds]; exact unhide hC), hF'⟩, by simp [intOf]; omega⟩
    · go_wp2_with fail
      go_ret
      have e : k = l.length := by rw [← (unhide HS).1]; omega
      exact ⟨rfl, ⟨C, unhide hr, by rw [Nat.mul_one]; exact unhide hC, V.FilledS.row (by rw [← e]; exact unhide hF) (unhide hr)⟩, unhide hb⟩
section
variable {HT : Type} {enc : TypeId × Value → HT} {w : World} {base : Nat} {sp : Nat → Bool} {held : Bool}
theorem read_Txs {r : Reach} {b0 : Nat} {v0 : Value} {d : DataW HT} {p : List MemPlace} (hv : Value.okWide Try.prog w r b0 22 v0) (h : DataW.Trod enc Try.prog w base sp held 22 v0 d p) :
    ∃ (l : List ByteArray) (a : Option Addr) (len cap : Nat), v0 = .slice a len cap ∧ SlTx w a len l ∧ (∀ q ∈ l, TxOk q) ∧ len ≤ maxLen := by
  obtain ⟨fuel, hf0⟩ := h
  obtain ⟨a, len, cap, rfl⟩ := okWide_slice Try.underlying22 hv
  obtain ⟨l, s, o, m⟩ := V.read_strings hf0
  exact ⟨l, a, len, cap, rfl, s, o, m⟩
end
theorem iRunRecovery_any (need delay : Int) (ha : Option Addr) (hn hc : Nat) (H : List ByteArray) (a : Option Addr) (len cap : Nat) (l : List RecoverEventT) (w : World) (hhl : hn ≤ maxLen) (hhs : SlTx w ha hn H) (hho : ∀ q ∈ H, TxOk q) (hl : len ≤ maxLen) (hs : SlRecoverEvent w a len l) (hok : ∀ q ∈ l, RecoverEventT.Ok q) :
    Calls Try.prog 9 #[.int .i64 need, .int .i64 delay, .slice ha hn hc, .slice a len cap] w fun e w' => (∃ v r, e = .returned v ∧ RecIs need delay H l r ∧ w'.ownsRow w.heap.size 3 1 v r.length (r.map intV)) ∧ Below w.heap.size w w' :=
  iRunRecovery_y need delay ⟨ha, hn, hc⟩ H a len cap l w (by rw [← hhs.1]; exact hhl) hho (V.SqS.of hhs) hl hs hok
theorem sRunRecovery_any (need delay : Int) (ha : Option Addr) (hn hc : Nat) (H : List ByteArray) (a : Option Addr) (len cap : Nat) (l : List RecoverEventT) (w : World) (hhl : hn ≤ maxLen) (hhs : SlTx w ha hn H) (hho : ∀ q ∈ H, TxOk q) (hl : len ≤ maxLen) (hs : SlRecoverEvent w a len l) (_hok : ∀ q ∈ l, RecoverEventT.Ok q) :
    Calls Try.prog 6 #[.int .i64 need, .int .i64 delay, .slice ha hn hc, .slice a len cap] w fun e w' => (∃ v r, e = .returned v ∧ RecIs need delay H l r ∧ w'.ownsRow w.heap.size 3 1 v r.length (r.map intV)) ∧ Below w.heap.size w w' :=
  sRunRecovery_y need delay ⟨ha, hn, hc⟩ H a len cap l w (by rw [← hhs.1]; exact hhl) hho (V.SqS.of hhs) hl hs
end Go.Proofs.Ytoikjamafglilaa
