/- The digest, as lists. -/
namespace Go.Proofs.YtfnjgakjainljaaDoor.D

def mul4 (i : Nat) : Nat := [1103515245, 69069, 1664525, 22695477].getD i 0
theorem mul4_le (i : Nat) : mul4 i ≤ 1103515245 := by
  unfold mul4
  match i with
  | 0 => decide
  | 1 => decide
  | 2 => decide
  | 3 => decide
  | _ + 4 => simp
/-- One number is changed. -/
def step4 (a : List Nat) (x i : Nat) : List Nat := a.set i ((a.getD i 0 * mul4 i + x + 1 + a.getD ((i + 1) % 4) 0) % 2147483579)
def mixN (a : List Nat) (x : Nat) : Nat → List Nat
  | 0 => a
  | k + 1 => step4 (mixN a x k) x k
def mix (a : List Nat) (x : Nat) : List Nat := mixN a x 4
/-- Four numbers below the prime. -/
def Four (a : List Nat) : Prop := a.length = 4 ∧ ∀ i, a.getD i 0 < 2147483579
theorem Four.step {a : List Nat} (h : Four a) (x i : Nat) : Four (step4 a x i) := by
  refine ⟨by simp [step4, h.1], fun j => ?_⟩
  unfold step4
  rw [List.getD_eq_getElem?_getD]
  by_cases e : i = j
  · subst e
    by_cases hi : i < a.length
    · rw [List.getElem?_set_self hi]; exact Nat.mod_lt _ (by decide)
    · rw [List.getElem?_eq_none (by simp; omega)]; decide
  · rw [List.getElem?_set_ne e, ← List.getD_eq_getElem?_getD]; exact h.2 j
theorem Four.mixN {a : List Nat} (h : Four a) (x k : Nat) : Four (mixN a x k) := by
  induction k with
  | zero => exact h
  | succ k ih => exact ih.step x k
def takes (a : List Nat) (l : List UInt8) : List Nat := l.foldl (fun a c => mix a c.toNat) a
theorem Four.takes {a : List Nat} (h : Four a) (l : List UInt8) : Four (takes a l) := by
  unfold Go.Proofs.YtfnjgakjainljaaDoor.D.takes
  induction l generalizing a with
  | nil => exact h
  | cons c l ih => exact ih (h.mixN c.toNat 4)
theorem takes_snoc (a : List Nat) (l : List UInt8) (c : UInt8) : takes a (l ++ [c]) = mix (takes a l) c.toNat := by simp [takes]
theorem takes_app (a : List Nat) (l m : List UInt8) : takes a (l ++ m) = takes (takes a l) m := by simp [takes]
theorem four0 : Four [11, 22, 33, 44] := by
  refine ⟨rfl, fun i => ?_⟩
  match i with
  | 0 => decide
  | 1 => decide
  | 2 => decide
  | 3 => decide
  | _ + 4 => simp
/-- A number as bytes. -/
def byte4 (n i : Nat) : UInt8 := UInt8.ofNat (n / 256 ^ i % 256)
theorem byte4_toNat (n i : Nat) : (byte4 n i).toNat = n / 256 ^ i % 256 := by
  unfold byte4; rw [UInt8.toNat_ofNat']; omega
def bytes4 (n : Nat) : List UInt8 := [byte4 n 0, byte4 n 1, byte4 n 2, byte4 n 3]
/-- The four numbers of a digest. -/
def digN (l : List UInt8) : List Nat := takes (takes (takes [11, 22, 33, 44] l) (bytes4 l.length)) (List.replicate 8 0)
theorem digN_four (l : List UInt8) : Four (digN l) := ((four0.takes _).takes _).takes _
def tell (a : List Nat) : List UInt8 := a.flatMap bytes4
theorem tell_snoc (a : List Nat) (n : Nat) : tell (a ++ [n]) = tell a ++ bytes4 n := by simp [tell]
theorem tell_len (a : List Nat) : (tell a).length = 4 * a.length := by
  induction a with
  | nil => rfl
  | cons x xs ih => show (bytes4 x ++ tell xs).length = _; rw [List.length_append, ih]; simp [bytes4]; omega
def dig (l : List UInt8) : List UInt8 := tell (digN l)
theorem dig_len (l : List UInt8) : (dig l).length = 16 := by unfold dig; rw [tell_len, (digN_four l).1]
end Go.Proofs.YtfnjgakjainljaaDoor.D
