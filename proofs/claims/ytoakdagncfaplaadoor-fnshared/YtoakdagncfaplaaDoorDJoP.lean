/- Join, told purely, at any modulus P and any inverse's power E: both programs' sums are one. -/
import Derived.Test.YtoakdagncfaplaaDoorDPow
namespace Go.Proofs.YtoakdagncfaplaaDoor.D
set_option maxRecDepth 20000

/-- The product of the other places. -/
def sk (P x : Nat) (l : List (Nat × Nat)) (i : Nat) : Nat := l.foldl (fun a s => if s.1 = x then a else a * s.1 % P) i
/-- The product of the distances. -/
def bl (P x : Nat) (l : List (Nat × Nat)) (i : Nat) : Nat := l.foldl (fun a s => if s.1 = x then a else a * (P + s.1 - x) % P) i
def wt (P E : Nat) (l : List (Nat × Nat)) (x : Nat) : Nat := sk P x l 1 * pw (bl P x l 1) E P % P
def joinI (P E : Nat) (l m : List (Nat × Nat)) (i : Nat) : Nat := m.foldl (fun a s => (a + s.2 * wt P E l s.1) % P) i
def joinS (P E : Nat) (l m : List (Nat × Nat)) (i : Nat) : Nat := m.foldl (fun a s => (a + sk P s.1 l s.2 * pw (bl P s.1 l 1) E P) % P) i

theorem sk_cons (P x : Nat) (s : Nat × Nat) (l : List (Nat × Nat)) (i : Nat) : sk P x (s :: l) i = sk P x l (if s.1 = x then i else i * s.1 % P) := rfl
theorem bl_cons (P x : Nat) (s : Nat × Nat) (l : List (Nat × Nat)) (i : Nat) : bl P x (s :: l) i = bl P x l (if s.1 = x then i else i * (P + s.1 - x) % P) := rfl
theorem joinI_cons (P E : Nat) (l m : List (Nat × Nat)) (s : Nat × Nat) (i : Nat) : joinI P E l (s :: m) i = joinI P E l m ((i + s.2 * wt P E l s.1) % P) := rfl
theorem joinS_cons (P E : Nat) (l m : List (Nat × Nat)) (s : Nat × Nat) (i : Nat) : joinS P E l (s :: m) i = joinS P E l m ((i + sk P s.1 l s.2 * pw (bl P s.1 l 1) E P) % P) := rfl
theorem sk_snoc (P x : Nat) (s : Nat × Nat) (l : List (Nat × Nat)) (i : Nat) : sk P x (l ++ [s]) i = if s.1 = x then sk P x l i else sk P x l i * s.1 % P := by simp [sk, List.foldl_append]
theorem bl_snoc (P x : Nat) (s : Nat × Nat) (l : List (Nat × Nat)) (i : Nat) : bl P x (l ++ [s]) i = if s.1 = x then bl P x l i else bl P x l i * (P + s.1 - x) % P := by simp [bl, List.foldl_append]
theorem joinI_snoc (P E : Nat) (l m : List (Nat × Nat)) (s : Nat × Nat) (i : Nat) : joinI P E l (m ++ [s]) i = (joinI P E l m i + s.2 * wt P E l s.1) % P := by simp [joinI, List.foldl_append]
theorem joinS_snoc (P E : Nat) (l m : List (Nat × Nat)) (s : Nat × Nat) (i : Nat) : joinS P E l (m ++ [s]) i = (joinS P E l m i + sk P s.1 l s.2 * pw (bl P s.1 l 1) E P) % P := by simp [joinS, List.foldl_append]

theorem sk_lt (P x : Nat) (hP : 0 < P) (l : List (Nat × Nat)) : ∀ i, i < P → sk P x l i < P := by
  induction l with
  | nil => intro i h; exact h
  | cons s l ih =>
    intro i h
    rw [sk_cons]
    split
    · exact ih _ h
    · exact ih _ (Nat.mod_lt _ hP)
theorem bl_lt (P x : Nat) (hP : 0 < P) (l : List (Nat × Nat)) : ∀ i, i < P → bl P x l i < P := by
  induction l with
  | nil => intro i h; exact h
  | cons s l ih =>
    intro i h
    rw [bl_cons]
    split
    · exact ih _ h
    · exact ih _ (Nat.mod_lt _ hP)
theorem joinI_lt (P E : Nat) (hP : 0 < P) (l m : List (Nat × Nat)) : ∀ i, i < P → joinI P E l m i < P := by
  induction m with
  | nil => intro i h; exact h
  | cons s m ih =>
    intro i h
    rw [joinI_cons]
    exact ih _ (Nat.mod_lt _ hP)
theorem sk_mul (P x : Nat) (l : List (Nat × Nat)) : ∀ y i, sk P x l (y * i % P) = y * sk P x l i % P := by
  induction l with
  | nil => intro y i; rfl
  | cons s l ih =>
    intro y i
    rw [sk_cons, sk_cons]
    split
    · exact ih y i
    · rw [← ih y (i * s.1 % P)]
      congr 1
      rw [Nat.mod_mul_mod, Nat.mul_mod_mod, Nat.mul_assoc]
theorem sk_one (P x : Nat) (l : List (Nat × Nat)) (y : Nat) (h : y < P) : sk P x l y = y * sk P x l 1 % P := by
  rw [← sk_mul, Nat.mul_one, Nat.mod_eq_of_lt h]
theorem step_one (P i y k q : Nat) : (i + y * k % P * q) % P = (i + y * (k * q % P)) % P := by
  rw [Nat.add_mod, Nat.mod_mul_mod, Nat.add_mod i (y * (k * q % P)), Nat.mul_mod_mod, Nat.mul_assoc]
/-- Both sums are one, where the shares' values lie below the modulus. -/
theorem join_one (P E : Nat) (l : List (Nat × Nat)) : ∀ (m : List (Nat × Nat)) (i : Nat), (∀ s ∈ m, s.2 < P) → joinS P E l m i = joinI P E l m i := by
  intro m
  induction m with
  | nil => intro i _; rfl
  | cons s m ih =>
    intro i h
    rw [joinS_cons, joinI_cons, ih _ (fun t ht => h t (List.mem_cons_of_mem _ ht)), sk_one _ _ _ _ (h s (List.mem_cons_self ..)), wt, step_one]
end Go.Proofs.YtoakdagncfaplaaDoor.D
