/- Atoms as keys of maps; sets of atoms. -/
import Derived.Test.YtpfekkhnjaopdaaGreatGMap
import Derived.Test.YtpfekkhnjaopdaaGreatZTh
import Derived.Test.YtpfekkhnjaopdaaGreatZGl
import Derived.Shelf.SlIterI.Sorted
namespace Go.Proofs.YtpfekkhnjaopdaaGreat.V
set_option linter.unusedSimpArgs false
set_option linter.unusedVariables false
open Go.RowKit Go.Maps

def okI (z : Int) : Prop := (Lit.int .i64 z).wf = true
theorem okI_of {z : Int} (h1 : -9223372036854775808 ≤ z) (h2 : z ≤ 9223372036854775807) : okI z := by
  have h : IntKind.i64.wrap z = z := by rw [IntKind.wrap_i64]; omega
  unfold okI Lit.wf
  simp [h]
  exact ⟨h1, h2⟩
set_option maxRecDepth 100000 in
theorem lits_int {m : Nat} {c : Value} {l : List Lit} (h : Tryz.prog.keyLits m 3 [c] = some l) : ∃ z, c = .int .i64 z ∧ okI z := by
  cases m with
  | zero => simp [Program.keyLits] at h
  | succ m =>
    unfold Program.keyLits at h
    rw [Tryz.underlying3] at h
    cases c <;> simp at h
    obtain ⟨⟨rfl, hw⟩, _⟩ := h
    exact ⟨_, rfl, hw⟩
set_option maxRecDepth 100000 in
theorem lits_str {m : Nat} {c : Value} {l : List Lit} (h : Tryz.prog.keyLits m 9 [c] = some l) : ∃ z, c = .string z ∧ z.size ≤ maxLen := by
  cases m with
  | zero => simp [Program.keyLits] at h
  | succ m =>
    unfold Program.keyLits at h
    rw [Tryz.underlying9] at h
    cases c <;> simp at h
    exact ⟨_, rfl, h.1⟩
theorem pos_succ {n k : Nat} (h : k < n) : ∃ m, n = m + 1 := ⟨n - 1, by omega⟩
theorem mLaid : laidOutB Tryz.prog = true := by kernel_rfl
def encA (a : AtomT) : Value := .agg #[.int .i64 a.x, .int .i64 a.n, .string a.t, .string a.y]
structure OkA (a : AtomT) : Prop where
  x : okI a.x
  n : okI a.n
  t : a.t.size ≤ maxLen
  y : a.y.size ≤ maxLen
theorem mRowA : (31 : TypeId) < Tryz.prog.types.size := of_decide_eq_true (by kernel_rfl)
set_option maxRecDepth 100000 in
theorem lawA : Keyed Tryz.prog 31 := Keyed.of_law (deep_law_laid mLaid (m := 2) (by omega) mRowA (by kernel_rfl) (by rw [Tryz.underlying31]))
set_option maxRecDepth 100000 in
theorem key_atom (a : AtomT) (h : OkA a) : ∃ kl, keyOf Tryz.prog 31 (encA a) = some kl := by
  obtain ⟨x, n, t, y⟩ := a
  obtain ⟨h1, h2, h3, h4⟩ := h
  simp only at h1 h2 h3 h4
  unfold encA
  have hk : Tryz.prog.keyType 31 = true := by kernel_rfl
  have hc : Tryz.prog.cellsOf 31 = 4 := by kernel_rfl
  have c3 : Tryz.prog.cellsOf 3 = 1 := by kernel_rfl
  have c9 : Tryz.prog.cellsOf 9 = 1 := by kernel_rfl
  have hf : (Value.agg #[.int .i64 x, .int .i64 n, .string t, .string y]).formed Tryz.prog 31 = true := by simp [Value.formed, Tryz.underlying31, hc]
  obtain ⟨m, hm⟩ := pos_succ mRowA
  unfold keyOf
  rw [Tryz.underlying31]
  simp only [hk, hf, Bool.and_self, if_true]
  rw [hm]
  unfold Program.keyLits
  rw [Tryz.underlying31]
  have e9 : ∀ z : ByteArray, z.size ≤ maxLen → ∃ lz, Tryz.prog.keyLits (m + 1) 9 [.string z] = some lz := by
    intro z hz
    unfold Program.keyLits
    rw [Tryz.underlying9]
    simp [hz]
  have e3 : ∀ z : Int, okI z → ∃ lz, Tryz.prog.keyLits (m + 1) 3 [.int .i64 z] = some lz := by
    intro z hz
    unfold okI at hz
    unfold Program.keyLits
    rw [Tryz.underlying3]
    simp [hz]
  obtain ⟨l0, e0⟩ := e3 x h1
  obtain ⟨l1, e1⟩ := e3 n h2
  obtain ⟨l2, e2⟩ := e9 t h3
  obtain ⟨l3, e4⟩ := e9 y h4
  simp [Value.cells, hc, c3, c9, e0, e1, e2, e4]
set_option maxRecDepth 100000 in
theorem keyA_all {v : Value} {kl : Lit} (h : keyOf Tryz.prog 31 v = some kl) : ∃ x, v = encA x ∧ OkA x := by
  have hc : Tryz.prog.cellsOf 31 = 4 := by kernel_rfl
  have c3 : Tryz.prog.cellsOf 3 = 1 := by kernel_rfl
  have c9 : Tryz.prog.cellsOf 9 = 1 := by kernel_rfl
  obtain ⟨m, hm⟩ := pos_succ mRowA
  unfold keyOf at h
  rw [Tryz.underlying31] at h
  simp only at h
  split at h
  · rename_i hf
    simp only [Bool.and_eq_true] at hf
    have hf2 := hf.2
    unfold Value.formed at hf2
    rw [Tryz.underlying31] at hf2
    cases v with
    | agg cs =>
      simp only [hc, beq_iff_eq] at hf2
      obtain ⟨ls, hl, _⟩ := Option.map_eq_some_iff.1 h
      obtain ⟨l⟩ := cs
      match l, hf2 with
      | [a, b, c, d], _ =>
        rw [hm] at hl
        unfold Program.keyLits at hl
        rw [Tryz.underlying31] at hl
        simp [Value.cells, hc, c3, c9] at hl
        obtain ⟨x0, hx0, hl⟩ := Option.bind_eq_some_iff.1 hl
        obtain ⟨r0, hl, _⟩ := Option.map_eq_some_iff.1 hl
        obtain ⟨r1, hl, _⟩ := Option.bind_eq_some_iff.1 hl
        obtain ⟨x1, hx1, hl⟩ := Option.bind_eq_some_iff.1 hl
        obtain ⟨r2, hl, _⟩ := Option.bind_eq_some_iff.1 hl
        obtain ⟨x2, hx2, hl⟩ := Option.bind_eq_some_iff.1 hl
        obtain ⟨r3, hl, _⟩ := Option.bind_eq_some_iff.1 hl
        obtain ⟨x3, hx3, _⟩ := Option.bind_eq_some_iff.1 hl
        obtain ⟨z0, rfl, h0⟩ := lits_int hx0
        obtain ⟨z1, rfl, h1⟩ := lits_int hx1
        obtain ⟨z2, rfl, h2⟩ := lits_str hx2
        obtain ⟨z3, rfl, h3⟩ := lits_str hx3
        exact ⟨⟨z0, z1, z2, z3⟩, rfl, ⟨h0, h1, h2, h3⟩⟩
    | _ => simp at hf2
  · cases h
theorem encA_inj {x y : AtomT} (h : encA x = encA y) : x = y := by
  obtain ⟨a, b, c, d⟩ := x
  obtain ⟨e, f, g, k⟩ := y
  simpa [encA] using h
theorem kAtom : KeyKind Tryz.prog 31 encA OkA where
  law := lawA
  key x hx := key_atom x hx
  inv v kl h := keyA_all h
  inj x y h := encA_inj h
abbrev KAt (w : World) (b n : Nat) (m : AtomT → Option Value) : Prop := KM Tryz.prog 31 encA w b n m
/-- What the map of a set of atoms holds. -/
noncomputable def seA (S : AtomT → Prop) : AtomT → Option Value := fun p => @ite _ (S p) (Classical.propDecidable _) (some (.agg #[])) none
theorem seA_isSome {S : AtomT → Prop} {p : AtomT} : (seA S p).isSome = true ↔ S p := by
  unfold seA
  by_cases h : S p
  · rw [if_pos h]; simp [h]
  · rw [if_neg h]; simp [h]
noncomputable instance : DecidableEq AtomT := fun _ _ => Classical.propDecidable _
theorem seA_put (S : AtomT → Prop) (x : AtomT) : updK (seA S) x (.agg #[]) = seA (fun p => S p ∨ p = x) := by
  funext p
  unfold updK seA
  by_cases h : p = x
  · rw [if_pos h, if_pos (.inr h)]
  · rw [if_neg h]
    by_cases k : S p
    · rw [if_pos k, if_pos (.inl k)]
    · rw [if_neg k, if_neg (fun q => q.elim k h)]
theorem seA_congr {S T : AtomT → Prop} (h : ∀ p, S p ↔ T p) : seA S = seA T := by
  have : S = T := by funext p; exact propext (h p)
  rw [this]
theorem zeroSt (w : World) : (zeroValue 70).run Tryz.prog w = .ok (.agg #[]) w := by kernel_rfl
set_option maxHeartbeats 400000 in
theorem addA_any (b n : Nat) (S : AtomT → Prop) (x : AtomT) (w : World) (hm : KAt w b n (seA S)) (hn : n < maxLen) (hx : OkA x) :
    Calls Tryz.prog 88 #[.map (some b), encA x] w fun e w' => e = .returned (.tuple #[]) ∧ KAt w' b (n + 1) (seA fun p => S p ∨ p = x) ∧ w.grownBy w' (some b) := by
  obtain ⟨W, hW⟩ : ∃ W, W = w.alloc (.cells #[.int .i64 x.x, .int .i64 x.n, .string x.t, .string x.y] 31) := ⟨_, rfl⟩
  have HM := hide (show KAt W b n (seA S) by rw [hW]; exact hm.kept (World.grownBy_alloc _ _ none) (by simp))
  have g0 := hide (show w.grownBy W (some b) by rw [hW]; exact World.grownBy_alloc _ _ _)
  have HW := hide hW.symm
  have eM := hide (seA_put S x)
  clear hm hW
  unfold encA
  go_enter Tryz.func88, Tryz.ntmps88
  go_wp2_with (at_mapUpdate; rw [unhide HW]; refine wpList_put_km _ kAtom rfl _ _ _ _ rfl _ Tryz.underlying69 b n _ rfl (unhide HM) hn x (.agg #[]) rfl rfl hx ?_; intro w1 h1 h2 h3; rw [unhide eM] at h1)
  go_end0
  exact ⟨rfl, h1, (unhide g0).trans h2⟩
set_option maxHeartbeats 400000 in
theorem hasA_any (b n : Nat) (S : AtomT → Prop) (x : AtomT) (w : World) (hm : KAt w b n (seA S)) (hx : OkA x) :
    Calls Tryz.prog 68 #[.map (some b), encA x] w fun e w' => RetB e (S x) ∧ Below w.heap.size w w' := by
  obtain ⟨W, hW⟩ : ∃ W, W = w.alloc (.cells #[.int .i64 x.x, .int .i64 x.n, .string x.t, .string x.y] 31) := ⟨_, rfl⟩
  have bW : Below w.heap.size w W := by rw [hW]; exact bAl (Below.refl _ _) _
  have HM := hide (hm.keepB bW hm.lt)
  have BW := hide bW
  have HW := hide hW.symm
  have D := hide (seA_isSome (S := S) (p := x))
  have hv : Hid ((seA S x).getD (.agg #[]) = .agg #[]) := hide (by unfold seA; by_cases h : S x <;> simp [h])
  obtain ⟨r, hr⟩ : ∃ r, (seA S x).isSome = r := ⟨_, rfl⟩
  have HR := hide hr
  rw [hr] at D
  clear hm hW bW hr
  unfold encA
  go_enter Tryz.func68, Tryz.ntmps68
  go_wp2_with (at_lookup; rw [unhide HW]; refine wpList_look_km _ kAtom rfl _ _ _ rfl _ Tryz.underlying69 (zeroSt _) b n _ rfl (unhide HM) x rfl hx _ _ (unhide hv) (unhide HR) ?_)
  go_ret
  exact ⟨retB (b := r) (unhide D), by first | exact unhide BW | exact bAl (unhide BW) _⟩
end Go.Proofs.YtpfekkhnjaopdaaGreat.V
