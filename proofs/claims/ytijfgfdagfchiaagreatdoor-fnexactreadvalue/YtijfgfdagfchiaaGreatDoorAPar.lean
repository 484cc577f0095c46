/- What spec.l1Guess does to bytes: parts at points and slashes, zeros ahead; pure. -/
import Derived.Test.YtijfgfdagfchiaaGreatDoorAGi
import Derived.Test.YtijfgfdagfchiaaGreatDoorQWho
namespace Go.Proofs.YtijfgfdagfchiaaGreatDoor

def sepB (c : UInt8) : Bool := c == 46 || c == 47
/-- The parts of a text between points and slashes. -/
def sp : List UInt8 → List (List UInt8)
  | [] => [[]]
  | c :: t => if sepB c then [] :: sp t else match sp t with
    | [] => [[c]]
    | p :: r => (c :: p) :: r
theorem sp_ne : ∀ l : List UInt8, ∃ p r, sp l = p :: r
  | [] => ⟨[], [], rfl⟩
  | c :: t => by
    unfold sp
    split
    · exact ⟨_, _, rfl⟩
    · obtain ⟨p, r, e⟩ := sp_ne t
      rw [e]; exact ⟨_, _, rfl⟩
theorem sp_app : ∀ (a : List UInt8) (c : UInt8) (r : List UInt8), (∀ x ∈ a, sepB x = false) → sepB c = true → sp (a ++ c :: r) = a :: sp r
  | [], c, r, _, hc => by
    show sp (c :: r) = _
    rw [sp]; simp [hc]
  | x :: a, c, r, ha, hc => by
    have ih := sp_app a c r (fun y hy => ha y (List.mem_cons_of_mem _ hy)) hc
    show sp (x :: (a ++ c :: r)) = _
    rw [sp]; simp [ha x (by simp), ih]
theorem sp_last : ∀ a : List UInt8, (∀ x ∈ a, sepB x = false) → sp a = [a]
  | [], _ => rfl
  | x :: a, ha => by
    have ih := sp_last a (fun y hy => ha y (List.mem_cons_of_mem _ hy))
    rw [sp]; simp [ha x (by simp), ih]
theorem nc_sep {x : UInt8} (h : NC x) : sepB x = false := by
  have := nc_not h
  unfold sepB
  simp [this.1, this.2.1]
theorem sp_dec {A B : List UInt8} (hA : ∀ x ∈ A, NC x) (hB : ∀ x ∈ B, Dig x) : sp (A ++ 46 :: B) = [A, B] := by
  rw [sp_app A 46 B (fun x hx => nc_sep (hA x hx)) (by decide), sp_last B (fun x hx => nc_sep (dig_nc (hB x hx)))]
theorem sp_blk (f b : Int) : sp (blkL f b) = (four f).map Lib.itoa ++ [Lib.itoa b] := by
  have n : ∀ m : Int, ∀ x ∈ Lib.itoa m, sepB x = false := fun m x hx => nc_sep (itoa_nc m x hx)
  have e : blkL f b = Lib.itoa (f / 16777216) ++ 46 :: (Lib.itoa (f / 65536 % 256) ++ 46 :: (Lib.itoa (f / 256 % 256) ++ 46 :: (Lib.itoa (f % 256) ++ 47 :: Lib.itoa b))) := by
    unfold blkL four
    simp [Lib.join, List.intercalate]
  rw [e, sp_app _ 46 _ (n _) (by decide), sp_app _ 46 _ (n _) (by decide), sp_app _ 46 _ (n _) (by decide), sp_app _ 47 _ (n _) (by decide), sp_last _ (n _)]
  rfl
/-- Zeros ahead left out. -/
def strip : List UInt8 → List UInt8
  | c :: d :: t => if c = 48 then strip (d :: t) else c :: d :: t
  | l => l
theorem dval_pos : ∀ (D : List UInt8) (a : Nat), 1 ≤ a → 1 ≤ dval a D := fun D a h => Nat.le_trans h (dval_le D a)
/-- Digits that do not open with nought are the digits of their number. -/
theorem dec_of_val (D : List UInt8) : (∀ x ∈ D, Dig x) → D ≠ [] → (∀ x, D.head? = some x → ¬ x = 48) → Lib.decDigits (dval 0 D) = D := by
  have main : ∀ (n : Nat) (D : List UInt8), D.length = n → (∀ x ∈ D, Dig x) → D ≠ [] → (∀ x, D.head? = some x → ¬ x = 48) → Lib.decDigits (dval 0 D) = D := by
    intro n
    induction n with
    | zero => intro D h _ hne; exact absurd (List.length_eq_zero_iff.1 h) hne
    | succ n ih =>
      intro D h hd hne hh
      obtain ⟨I, c, rfl⟩ : ∃ I c, D = I ++ [c] := ⟨D.dropLast, D.getLast hne, (List.dropLast_concat_getLast hne).symm⟩
      have hc := hd c (by simp)
      unfold Dig at hc
      rw [dval_app]
      by_cases hI : I = []
      · subst hI
        have e : dval 0 ([] : List UInt8) * 10 + (c.toNat - 48) = c.toNat - 48 := by show 0 * 10 + _ = _; omega
        rw [e, Lib.decDigits, dif_pos (by omega)]
        show [_] = [c]
        congr 1
        apply UInt8.toNat_inj.1
        rw [dig_val _ (by omega)]
        omega
      · have hhI : ∀ x, I.head? = some x → ¬ x = 48 := by
          intro x hx
          apply hh x
          cases I with
          | nil => exact absurd rfl hI
          | cons y I => exact hx
        have ihI := ih I (by simpa using h) (fun x hx => hd x (by simp [hx])) hI hhI
        have hv : 1 ≤ dval 0 I := by
          cases I with
          | nil => exact absurd rfl hI
          | cons y I =>
            have hy := hd y (by simp)
            unfold Dig at hy
            have hy2 : ¬ y = 48 := hhI y rfl
            have hy3 : ¬ y.toNat = 48 := fun e => hy2 (UInt8.toNat_inj.1 e)
            rw [dval_cons]
            exact dval_pos I _ (by omega)
        rw [Lib.decDigits, dif_neg (by omega), show (dval 0 I * 10 + (c.toNat - 48)) / 10 = dval 0 I by omega, ihI, show (dval 0 I * 10 + (c.toNat - 48)) % 10 = c.toNat - 48 by omega]
        congr 2
        apply UInt8.toNat_inj.1
        rw [dig_val _ (by omega)]
        omega
  exact main D.length D rfl
theorem strip_dec : ∀ D : List UInt8, D ≠ [] → (∀ x ∈ D, Dig x) → strip D = Lib.decDigits (dval 0 D) := by
  have main : ∀ (n : Nat) (D : List UInt8), D.length = n → D ≠ [] → (∀ x ∈ D, Dig x) → strip D = Lib.decDigits (dval 0 D) := by
    intro n
    induction n with
    | zero => intro D h hne; exact absurd (List.length_eq_zero_iff.1 h) hne
    | succ n ih =>
      intro D h hne hd
      match D, h, hne, hd with
      | [c], _, _, hd =>
        have hc := hd c (by simp)
        unfold Dig at hc
        show [c] = _
        have e : dval 0 [c] = c.toNat - 48 := by rw [dval_cons]; show 0 * 10 + (c.toNat - 48) = _; omega
        rw [e, Lib.decDigits, dif_pos (by omega)]
        congr 1
        apply UInt8.toNat_inj.1
        rw [dig_val _ (by omega)]
        omega
      | c :: d :: t, h, _, hd =>
        have hc := hd c (by simp)
        by_cases h48 : c = 48
        · unfold strip
          rw [if_pos h48, ih (d :: t) (by simpa using h) (by simp) (fun x hx => hd x (List.mem_cons_of_mem _ hx))]
          congr 1
          rw [h48, dval_cons 0 48]
          rfl
        · unfold strip
          rw [if_neg h48]
          symm
          exact dec_of_val (c :: d :: t) hd (by simp) (fun x hx => by injection hx with e; rw [e] at h48; exact h48)
  intro D hne hd
  exact main D.length D rfl hne hd
end Go.Proofs.YtijfgfdagfchiaaGreatDoor
