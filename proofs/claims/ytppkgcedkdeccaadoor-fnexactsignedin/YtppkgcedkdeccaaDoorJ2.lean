/- DArith, DPow, DByt, one behind the other. -/
import Derived.Test.YtppkgcedkdeccaaDoorRows
import Derived.WalkKit
import Derived.WalkSpells
import Derived.WalkLawsBesides
import Derived.Below
import Derived.Laws.Bits64b
import Derived.Laws.Rows
import Derived.Laws.MakeOwn
import Derived.Laws.AppendOwn
import Derived.BigQuiet
import Derived.Lib.SmallJoins
/- Powers modulo a number, primes, polynomials, Fermat, the order of the base. -/
namespace Go.Proofs.YtppkgcedkdeccaaDoor.D
theorem powOdd (out b m e : Nat) (h : e % 2 = 1) : ((out * b % m) * (b * b % m)^(e/2)) % m = (out * b^e) % m := by
  have h1 : ((out * b % m) * (b * b % m)^(e/2)) % m = ((out * b) * (b * b)^(e/2)) % m := by
    rw [Nat.mul_mod, Nat.mod_mod, ← Nat.pow_mod, ← Nat.mul_mod]
  have h2 : b ^ e = b * (b * b)^(e/2) := by
    have : e = 2 * (e / 2) + 1 := by omega
    conv => lhs; rw [this, Nat.pow_succ, Nat.pow_mul, Nat.mul_comm]
    rw [Nat.pow_two]
  rw [h1, h2, Nat.mul_assoc]
theorem powEven (out b m e : Nat) (h : e % 2 = 0) : (out * (b * b % m)^(e/2)) % m = (out * b^e) % m := by
  have h1 : (out * (b * b % m)^(e/2)) % m = (out * (b * b)^(e/2)) % m := by
    rw [Nat.mul_mod, ← Nat.pow_mod, ← Nat.mul_mod]
  have h2 : b ^ e = (b * b)^(e/2) := by
    have : e = 2 * (e / 2) := by omega
    conv => lhs; rw [this, Nat.pow_mul]
    rw [Nat.pow_two]
  rw [h1, h2]
/-- The model's step: from the higher bits to one more. -/
theorem powUp0 (a m n : Nat) (h : n % 2 = 0) : (a ^ (n / 2) % m) * (a ^ (n / 2) % m) % m = a ^ n % m := by
  rw [← Nat.mul_mod, ← Nat.pow_add]; congr 2; omega
theorem powUp1 (a m n : Nat) (h : n % 2 = 1) : ((a ^ (n / 2) % m) * (a ^ (n / 2) % m) % m) * a % m = a ^ n % m := by
  rw [← Nat.mul_mod, ← Nat.pow_add, Nat.mod_mul_mod, ← Nat.pow_succ]; congr 2; omega
theorem mulLt {a b m : Nat} (ha : a < m) (hb : b < m) (hm : m < 2147483648) : a * b < 4611686018427387904 := by
  have := Nat.mul_le_mul (Nat.le_of_lt_succ (Nat.lt_of_lt_of_le ha (show m ≤ 2147483647 + 1 by omega))) (Nat.le_of_lt_succ (Nat.lt_of_lt_of_le hb (show m ≤ 2147483647 + 1 by omega)))
  omega
def noDiv (n lo : Nat) : Nat → Bool
  | 0 => n % lo != 0
  | k + 1 => noDiv n lo k && noDiv n (lo + 2 ^ k) k
theorem noDiv_of {n k : Nat} : ∀ {lo}, noDiv n lo k = true → ∀ d, lo ≤ d → d < lo + 2 ^ k → n % d ≠ 0 := by
  induction k with
  | zero => intro lo h d h1 h2; obtain rfl : d = lo := by omega
            simpa [noDiv] using h
  | succ k ih =>
    intro lo h d h1 h2
    simp only [noDiv, Bool.and_eq_true] at h
    rw [Nat.pow_succ] at h2
    by_cases hd : d < lo + 2 ^ k
    · exact ih h.1 d h1 hd
    · exact ih h.2 d (by omega) (by omega)
def ord : Nat := 1073741789
def prm : Nat := 2147483579
set_option maxRecDepth 100000 in
theorem ord_noDiv : noDiv 1073741789 2 15 = true := by decide +kernel
theorem ord_prime (d : Nat) (h1 : 1 < d) (h2 : d < 1073741789) : 1073741789 % d ≠ 0 := by
  intro h
  by_cases hd : d < 2 + 2 ^ 15
  · exact noDiv_of ord_noDiv d (by omega) hd h
  · have hm := Nat.div_add_mod 1073741789 d
    rw [h] at hm
    generalize hq : 1073741789 / d = q at hm
    have hq0 : q ≠ 0 := by intro e; subst e; omega
    have hq1 : q ≠ 1 := by intro e; subst e; omega
    have hql : q < 2 + 2 ^ 15 := by
      apply Nat.lt_of_not_le
      intro hge
      have := Nat.mul_le_mul (show 32770 ≤ d by omega) (show 32770 ≤ q by omega)
      omega
    have : 1073741789 % q = 0 := by
      have e : 1073741789 = d * q := by omega
      rw [e]; exact Nat.mul_mod_left _ _
    exact noDiv_of ord_noDiv q (by omega) hql this
theorem ord_coprime (a : Nat) (h1 : 0 < a) (h2 : a < 1073741789) : Nat.gcd a 1073741789 = 1 := by
  have hl : Nat.gcd a 1073741789 ≤ a := Nat.gcd_le_left _ h1
  have hp : 0 < Nat.gcd a 1073741789 := Nat.gcd_pos_of_pos_left _ h1
  have hd := Nat.gcd_dvd_right a 1073741789
  apply Classical.byContradiction
  intro hn
  exact ord_prime _ (by omega) (by omega) (Nat.mod_eq_zero_of_dvd hd)
def ev : List Int → Int → Int
  | [], _ => 0
  | c :: cs, z => c + z * ev cs z
def dq : List Int → Int → List Int
  | [], _ => []
  | c :: cs, a => ev (c :: cs) a :: dq cs a
theorem dq_len (cs : List Int) (a : Int) : (dq cs a).length = cs.length := by
  induction cs with
  | nil => rfl
  | cons c cs ih => simp [dq, ih]
theorem dq_ev (cs : List Int) (a z : Int) : z * ev cs z - a * ev cs a = (z - a) * ev (dq cs a) z := by
  induction cs with
  | nil => simp [ev, dq]
  | cons d ds ih =>
    simp only [ev, dq]
    generalize ev ds z = p at *
    generalize ev ds a = q at *
    generalize ev (dq ds a) z = r at *
    grind
theorem ev_sub (c : Int) (cs : List Int) (a z : Int) : ev (c :: cs) z = ev (c :: cs) a + (z - a) * ev (dq cs a) z := by
  rw [← dq_ev]; simp only [ev]; omega
/-- A number that divides a product divides one of the two. -/
def Prm (p : Int) : Prop := ∀ a b : Int, p ∣ a * b → p ∣ a ∨ p ∣ b
theorem roots {p : Int} (hp : Prm p) : ∀ (xs : List Int) (cs : List Int), cs.length ≤ xs.length → xs.Pairwise (fun x y => ¬ p ∣ x - y) → (∀ x ∈ xs, p ∣ ev cs x) → ∀ z, p ∣ ev cs z := by
  intro xs
  induction xs with
  | nil => intro cs h _ _ z; have : cs = [] := List.length_eq_zero_iff.1 (by simpa using h)
           subst this; simp [ev]
  | cons x xs ih =>
    intro cs h hd hr z
    cases cs with
    | nil => simp [ev]
    | cons c cs =>
      rw [List.pairwise_cons] at hd
      have hx := hr x (List.mem_cons_self ..)
      have hq : ∀ z, p ∣ ev (dq cs x) z := ih (dq cs x) (by rw [dq_len]; simpa using h) hd.2 (fun y hy => by
        have h1 := hr y (List.mem_cons_of_mem _ hy)
        rw [ev_sub c cs x y] at h1
        have h2 : p ∣ (y - x) * ev (dq cs x) y := (Int.dvd_add_right hx).1 h1
        rcases hp _ _ h2 with h3 | h3
        · exact absurd (by have := Int.dvd_neg.2 h3; rwa [Int.neg_sub] at this) (hd.1 y hy)
        · exact h3)
      rw [ev_sub c cs x z]
      exact Int.dvd_add hx (Int.dvd_mul_of_dvd_right (hq z))
/-- A polynomial with at most n coefficients. -/
def Poly (n : Nat) (g : Int → Int) : Prop := ∃ cs : List Int, cs.length ≤ n ∧ ∀ z, g z = ev cs z
theorem Poly.ofL {n : Nat} {cs : List Int} (h : cs.length ≤ n) : Poly n (ev cs) := ⟨cs, h, fun _ => rfl⟩
theorem Poly.zero (n : Nat) : Poly n (fun _ => 0) := ⟨[], Nat.zero_le _, fun _ => rfl⟩
theorem Poly.const (n : Nat) (hn : 1 ≤ n) (c : Int) : Poly n (fun _ => c) := ⟨[c], by simpa using hn, fun _ => by simp [ev]⟩
def addP : List Int → List Int → List Int
  | [], b => b
  | a :: as1, [] => a :: as1
  | a :: as1, b :: bs => (a + b) :: addP as1 bs
theorem addP_len (a b : List Int) (n : Nat) (ha : a.length ≤ n) (hb : b.length ≤ n) : (addP a b).length ≤ n := by
  induction a generalizing b n with
  | nil => simpa [addP] using hb
  | cons x xs ih => cases b with
    | nil => simpa [addP] using ha
    | cons y ys =>
      cases n with
      | zero => simp at ha
      | succ n => simp only [addP, List.length_cons]; have := ih ys n (by simpa using ha) (by simpa using hb); omega
theorem addP_ev (a b : List Int) (z : Int) : ev (addP a b) z = ev a z + ev b z := by
  induction a generalizing b with
  | nil => simp [addP, ev]
  | cons x xs ih => cases b with
    | nil => simp [addP, ev]
    | cons y ys => simp only [addP, ev, ih]; grind
theorem Poly.add {n : Nat} {f g : Int → Int} (hf : Poly n f) (hg : Poly n g) : Poly n (fun z => f z + g z) := by
  obtain ⟨a, ha, ea⟩ := hf
  obtain ⟨b, hb, eb⟩ := hg
  exact ⟨addP a b, addP_len a b n ha hb, fun z => by simp only [addP_ev, ea, eb]⟩
theorem ev_map (k : Int) (a : List Int) (z : Int) : ev (a.map (k * ·)) z = k * ev a z := by
  induction a with
  | nil => simp [ev]
  | cons x xs ih => simp only [List.map_cons, ev, ih]; grind
theorem Poly.smul {n : Nat} {f : Int → Int} (k : Int) (hf : Poly n f) : Poly n (fun z => k * f z) := by
  obtain ⟨a, ha, ea⟩ := hf
  exact ⟨a.map (k * ·), by simpa using ha, fun z => by simp only [ev_map, ea]⟩
theorem Poly.lin {n : Nat} {f : Int → Int} (x : Int) (hf : Poly n f) : Poly (n + 1) (fun z => (x - z) * f z) := by
  obtain ⟨a, ha, ea⟩ := hf
  refine ⟨addP (a.map (x * ·)) (0 :: a.map (-1 * ·)), addP_len _ _ _ (by simp; omega) (by simpa using ha), fun z => ?_⟩
  simp only [addP_ev, ev_map, ea, ev]; grind
def pr : List Int → Int → Int
  | [], _ => 1
  | x :: xs, z => (x - z) * pr xs z
theorem pr_poly (xs : List Int) : Poly (xs.length + 1) (pr xs) := by
  induction xs with
  | nil => exact Poly.const 1 (Nat.le_refl _) 1
  | cons x xs ih => exact Poly.lin x ih
theorem pr_zero {xs : List Int} {z : Int} (h : z ∈ xs) : pr xs z = 0 := by
  induction xs with
  | nil => simp at h
  | cons x xs ih =>
    rcases List.mem_cons.1 h with rfl | h
    · simp [pr]
    · simp [pr, ih h]
def sm (g : Int → Int) : List Int → Int
  | [] => 0
  | x :: xs => g x + sm g xs
theorem sm_poly {n : Nat} (g : Int → Int → Int) (xs : List Int) (h : ∀ x ∈ xs, Poly n (g x)) : Poly n (fun z => sm (fun x => g x z) xs) := by
  induction xs with
  | nil => exact Poly.zero n
  | cons x xs ih => exact Poly.add (h x (List.mem_cons_self ..)) (ih fun y hy => h y (List.mem_cons_of_mem _ hy))
theorem sm_nil (g : Int → Int) (xs : List Int) (h : ∀ x ∈ xs, g x = 0) : sm g xs = 0 := by
  induction xs with
  | nil => rfl
  | cons x xs ih => simp only [sm]; rw [h x (List.mem_cons_self ..), ih fun y hy => h y (List.mem_cons_of_mem _ hy)]; rfl
theorem sm_one (g : Int → Int) (xs : List Int) (j : Int) (hj : j ∈ xs) (hn : xs.Pairwise (· ≠ ·)) (h : ∀ x ∈ xs, x ≠ j → g x = 0) : sm g xs = g j := by
  induction xs with
  | nil => simp at hj
  | cons x xs ih =>
    rw [List.pairwise_cons] at hn
    simp only [sm]
    rcases List.mem_cons.1 hj with e | hj'
    · subst e
      rw [sm_nil g xs fun y hy => h y (List.mem_cons_of_mem _ hy) (fun e => hn.1 y hy e.symm)]; omega
    · rw [h x (List.mem_cons_self ..) (hn.1 j hj'), ih hj' hn.2 fun y hy => h y (List.mem_cons_of_mem _ hy)]; omega
theorem filter_lt (xs : List Int) (x : Int) (h : x ∈ xs) : (xs.filter (· != x)).length + 1 ≤ xs.length := by
  have : (xs.filter (· != x)).length < xs.length := by
    apply Nat.lt_of_le_of_ne (List.length_filter_le _ _)
    intro e
    have := (List.filter_eq_self.1 (List.Sublist.eq_of_length List.filter_sublist e)) x h
    simp at this
  omega
theorem lagrange {p : Int} (hp : Prm p) (xs : List Int) (hd : xs.Pairwise (fun x y => ¬ p ∣ x - y)) (cs : List Int) (hc : cs.length ≤ xs.length) (V : Int → Int) (hV : ∀ x ∈ xs, p ∣ V x * pr (xs.filter (· != x)) x - 1) :
    p ∣ sm (fun x => ev cs x * V x * pr (xs.filter (· != x)) 0) xs - ev cs 0 := by
  have hn : xs.Pairwise (· ≠ ·) := hd.imp fun {a b} h e => h (by subst e; rw [Int.sub_self]; exact Int.dvd_zero p)
  have hP : Poly xs.length (fun z => sm (fun x => ev cs x * V x * pr (xs.filter (· != x)) z) xs + (-1) * ev cs z) := by
    refine Poly.add (sm_poly (fun x z => ev cs x * V x * pr (xs.filter (· != x)) z) xs fun x hx => ?_) (Poly.smul (-1) (Poly.ofL hc))
    obtain ⟨l, hl, he⟩ := pr_poly (xs.filter (· != x))
    exact Poly.smul _ ⟨l, Nat.le_trans hl (filter_lt xs x hx), he⟩
  obtain ⟨l, hl, he⟩ := hP
  have hz := roots hp xs l hl hd (fun j hj => by
    rw [← he]
    simp only []
    rw [sm_one _ xs j hj hn (fun x hx hxj => by rw [pr_zero (List.mem_filter.2 ⟨hj, by simpa using Ne.symm hxj⟩)]; omega)]
    obtain ⟨q, hq⟩ := hV j hj
    refine ⟨ev cs j * q, ?_⟩
    generalize ev cs j = a at *
    generalize V j = b at *
    generalize pr (xs.filter (· != j)) j = c at *
    grind) 0
  rw [← he] at hz
  have e : ∀ a b : Int, a + -1 * b = a - b := fun a b => by omega
  simpa only [e] using hz
/- Fermat -/
def row : Nat → List Int
  | 0 => [1]
  | n + 1 => addP (row n) (0 :: row n)
theorem row_ev (n : Nat) (x : Int) : ev (row n) x = (1 + x) ^ n := by
  induction n with
  | zero => simp [row, ev]
  | succ n ih => simp only [row, addP_ev, ev, ih, Int.pow_succ]; grind
theorem row_len (n : Nat) : (row n).length = n + 1 := by
  have gen : ∀ l : List Int, (addP l (0 :: l)).length = l.length + 1 := by
    have g2 : ∀ (l : List Int) (c : Int), (addP l (c :: l)).length = l.length + 1 := by
      intro l; induction l with
      | nil => intro c; rfl
      | cons x xs ih => intro c; simp only [addP, List.length_cons, ih]
    exact fun l => g2 l 0
  induction n with
  | zero => rfl
  | succ n ih => simp only [row, gen, ih]
theorem addP_get (a b : List Int) (k : Nat) : (addP a b).getD k 0 = a.getD k 0 + b.getD k 0 := by
  induction a generalizing b k with
  | nil => simp [addP]
  | cons x xs ih => cases b with
    | nil => simp [addP]
    | cons y ys => cases k with
      | zero => simp [addP]
      | succ k => simpa [addP] using ih ys k
def co (n k : Nat) : Int := (row n).getD k 0
theorem co_zero (n : Nat) : co n 0 = 1 := by
  unfold co
  induction n with
  | zero => rfl
  | succ n ih => simp only [row, addP_get, ih]; rfl
theorem co_succ (n k : Nat) : co (n + 1) (k + 1) = co n (k + 1) + co n k := by
  unfold co
  simp only [row, addP_get]; simp
theorem co_none (k : Nat) : co 0 (k + 1) = 0 := rfl
theorem co_abs (n k : Nat) : ((k : Int) + 1) * co (n + 1) (k + 1) = ((n : Int) + 1) * co n k := by
  induction n generalizing k with
  | zero =>
    rw [co_succ, co_none]
    cases k with
    | zero => simp [co_zero]
    | succ k => rw [co_none]; simp
  | succ n ih =>
    rw [co_succ (n + 1) k]
    cases k with
    | zero => have := ih 0; simp only [co_zero] at *; push_cast at *; omega
    | succ j =>
      have h1 := ih (j + 1)
      have h2 := ih j
      have h3 := co_succ n j
      push_cast at *
      generalize co (n + 1) (j + 1 + 1) = a at *
      generalize co (n + 1) (j + 1) = b at *
      generalize co n (j + 1) = c at *
      generalize co n j = d at *
      grind
theorem ev_last {p : Int} (x : Int) (m : Nat) : ∀ l : List Int, (∀ k, k < m → p ∣ l.getD k 0) → l.length ≤ m + 1 → p ∣ ev l x - l.getD m 0 * x ^ m := by
  induction m with
  | zero =>
    intro l _ h
    match l, h with
    | [], _ => simp [ev]
    | [c], _ => simp [ev]
    | _ :: _ :: _, h => simp at h
  | succ m ih =>
    intro l hd h
    match l, h with
    | [], _ => simp [ev]
    | c :: cs, h =>
      obtain ⟨q, hq⟩ := ih cs (fun k hk => by simpa using hd (k + 1) (by omega)) (by simpa using h)
      obtain ⟨r, hr⟩ : p ∣ c := by simpa using hd 0 (by omega)
      refine ⟨r + x * q, ?_⟩
      simp only [ev, List.getD_cons_succ, Int.pow_succ]
      generalize ev cs x = a at *
      generalize cs.getD m 0 = b at *
      generalize x ^ m = y at *
      grind
theorem co_last (n : Nat) : co n n = 1 := by
  have hz : ∀ n k, n < k → co n k = 0 := by
    intro n k h
    unfold co
    rw [List.getD_eq_getElem?_getD, List.getElem?_eq_none (by rw [row_len]; omega)]; rfl
  induction n with
  | zero => rfl
  | succ n ih => rw [co_succ, ih, hz n (n + 1) (by omega)]; rfl
theorem frob {n : Nat} (hp : Prm ((n : Int) + 1)) (x : Int) : ((n : Int) + 1) ∣ (1 + x) ^ (n + 1) - (1 + x ^ (n + 1)) := by
  have hd : ∀ k, k < n → ((n : Int) + 1) ∣ co (n + 1) (k + 1) := fun k hk => by
    have h := co_abs n k
    rcases hp ((k : Int) + 1) (co (n + 1) (k + 1)) ⟨_, h⟩ with h1 | h1
    · have := Int.le_of_dvd (by omega) h1; omega
    · exact h1
  rw [← row_ev]
  have hl := row_len (n + 1)
  have h0 : co (n + 1) 0 = 1 := co_zero _
  have hL : co (n + 1) (n + 1) = 1 := co_last _
  unfold co at hd h0 hL
  generalize row (n + 1) = r at *
  match r, hl with
  | c :: cs, hl =>
    have := ev_last (p := (n : Int) + 1) x n cs (fun k hk => by simpa using hd k hk) (by simpa using Nat.le_of_eq hl)
    simp only [List.getD_cons_zero, List.getD_cons_succ] at h0 hL
    obtain ⟨q, hq⟩ := this
    refine ⟨x * q, ?_⟩
    simp only [ev, Int.pow_succ, h0]
    rw [hL] at hq
    generalize ev cs x = a at *
    generalize x ^ n = y at *
    grind
theorem fermat {n : Nat} (hp : Prm ((n : Int) + 1)) (x : Nat) : ((n : Int) + 1) ∣ (x : Int) ^ (n + 1) - x := by
  induction x with
  | zero => simp [Int.pow_succ]
  | succ x ih =>
    have := frob hp x
    have h2 := Int.dvd_add this ih
    have e : (1 + (x : Int)) ^ (n + 1) - (1 + (x : Int) ^ (n + 1)) + ((x : Int) ^ (n + 1) - x) = ((x + 1 : Nat) : Int) ^ (n + 1) - ((x + 1 : Nat) : Int) := by
      have : ((x + 1 : Nat) : Int) = 1 + (x : Int) := by push_cast; omega
      rw [this]; omega
    rwa [e] at h2
theorem fermat1 {n : Nat} (hp : Prm ((n : Int) + 1)) (x : Nat) (hx : ¬ ((n : Int) + 1) ∣ (x : Int)) : ((n : Int) + 1) ∣ (x : Int) ^ n - 1 := by
  have h := fermat hp x
  rw [Int.pow_succ] at h
  have : (x : Int) ^ n * x - x = ((x : Int) ^ n - 1) * x := by grind
  rw [this] at h
  exact (hp _ _ h).resolve_right hx
theorem ord_prm : Prm 1073741789 := by
  intro a b h
  by_cases ha : (1073741789 : Int) ∣ a
  · exact .inl ha
  · right
    have h1 : (1073741789 : Nat) ∣ a.natAbs * b.natAbs := by
      have := Int.natAbs_dvd_natAbs.2 h
      rwa [Int.natAbs_mul] at this
    have h2 : a.natAbs % 1073741789 ≠ 0 := fun e => ha (Int.ofNat_dvd_left.2 (Nat.dvd_of_mod_eq_zero e))
    have h3 : Nat.gcd 1073741789 a.natAbs = 1 := by
      rw [Nat.gcd_rec]; exact ord_coprime _ (Nat.pos_of_ne_zero h2) (Nat.mod_lt _ (by decide))
    exact Int.ofNat_dvd_left.2 (Nat.Coprime.dvd_of_dvd_mul_left h3 h1)
def pwr (m : Nat) : Nat → Nat → Nat → Nat → Nat
  | 0, out, _, _ => out
  | k + 1, out, b, e => if e % 2 = 1 then pwr m k (out * b % m) (b * b % m) (e / 2) else pwr m k out (b * b % m) (e / 2)
theorem pwr_eq (m k : Nat) : ∀ out b e, e < 2 ^ k → out % m = out → pwr m k out b e = (out * b ^ e) % m := by
  induction k with
  | zero => intro out b e h ho; obtain rfl : e = 0 := by simpa using h
            simp [pwr, ho]
  | succ k ih =>
    intro out b e h ho
    rw [Nat.pow_succ] at h
    simp only [pwr]
    split
    · rename_i h1
      rw [ih _ _ _ (by omega) (Nat.mod_mod _ _), powOdd _ _ _ _ h1]
    · rw [ih _ _ _ (by omega) ho, powEven _ _ _ _ (by omega)]
/-- The order, under a name. -/
def OrdIs (E : Nat) : Prop := E = 1073741789
theorem base_ord {E : Nat} (hE : OrdIs E) : 4 ^ E % 2147483579 = 1 := by
  have hE' : E = 1073741789 := hE
  have := pwr_eq 2147483579 30 1 4 E (by omega) (by decide)
  rw [Nat.one_mul] at this
  rw [← this, hE']
  decide +kernel
/-- The exponents that give 1. -/
def One4 (n : Nat) : Prop := 4 ^ n % 2147483579 = 1
theorem one4_mod {m n : Nat} (hm : One4 m) : One4 n ↔ One4 (n % m) := by
  unfold One4 at *
  have e : 4 ^ n % 2147483579 = 4 ^ (n % m) % 2147483579 := by
    conv => lhs; rw [← Nat.div_add_mod n m, Nat.pow_add, Nat.pow_mul, Nat.mul_mod, Nat.pow_mod, hm, Nat.one_pow]
    simp
  rw [e]
theorem one4_gcd (m n : Nat) : One4 m → One4 n → One4 (Nat.gcd m n) := by
  induction m, n using Nat.gcd.induction with
  | H0 n => intro _ h; rwa [Nat.gcd_zero_left]
  | H1 m n _ ih => intro hm hn; rw [Nat.gcd_rec]; exact ih ((one4_mod hm).1 hn) hm
theorem one4_dvd {E n : Nat} (hE : OrdIs E) (h : One4 n) : n % E = 0 := by
  apply Classical.byContradiction
  intro hn
  have h1 := (one4_mod (base_ord hE)).1 h
  have h2 := one4_gcd _ _ h1 (base_ord hE)
  have hE' : E = 1073741789 := hE
  have h3 : Nat.gcd (n % E) E = 1 := by
    generalize hr : n % E = r at *
    have hl : r < E := by rw [← hr]; exact Nat.mod_lt _ (by omega)
    rw [hE'] at hl ⊢
    exact ord_coprime r (Nat.pos_of_ne_zero hn) hl
  rw [h3] at h2
  exact absurd h2 (by unfold One4; decide)
theorem base_modE {E : Nat} (hE : OrdIs E) (n : Nat) : 4 ^ n % 2147483579 = 4 ^ (n % E) % 2147483579 := by
  conv => lhs; rw [← Nat.div_add_mod n E, Nat.pow_add, Nat.pow_mul, Nat.mul_mod, Nat.pow_mod, base_ord hE, Nat.one_pow]
  simp
theorem base_injE {E a b : Nat} (hE : OrdIs E) (h : 4 ^ a % 2147483579 = 4 ^ b % 2147483579) : a % E = b % E := by
  have hE' : 0 < E := by have : E = 1073741789 := hE; omega
  have key : ∀ a b : Nat, a ≤ b → 4 ^ a % 2147483579 = 4 ^ b % 2147483579 → a % E = b % E := by
    intro a b hab h
    have e : One4 (b - a) := by
      have h1 : 4 ^ (a * (E - 1) + a) % 2147483579 = 4 ^ (a * (E - 1) + b) % 2147483579 := by
        rw [Nat.pow_add, Nat.pow_add, Nat.mul_mod, h, ← Nat.mul_mod]
      have h2 : a * (E - 1) + a = E * a := by
        obtain ⟨F, rfl⟩ : ∃ F, E = F + 1 := ⟨E - 1, by omega⟩
        rw [Nat.add_sub_cancel]; grind
      have h3 : a * (E - 1) + b = E * a + (b - a) := by omega
      rw [h2, h3, Nat.pow_add, Nat.pow_mul, Nat.mul_mod, Nat.pow_mod, base_ord hE, Nat.one_pow] at h1
      unfold One4
      rw [← (by simpa using h1 : 1 = 4 ^ (b - a) % 2147483579)]
    have hd := one4_dvd hE e
    have hb : b = a + (b - a) := by omega
    rw [hb, Nat.add_mod, hd, Nat.add_zero, Nat.mod_mod]
  rcases Nat.le_total a b with hl | hl
  · exact key a b hl h
  · exact (key b a hl h.symm).symm
theorem base_posE {E : Nat} (hE : OrdIs E) (n : Nat) : 4 ^ n % 2147483579 ≠ 0 := by
  intro h
  have hE' : 0 < E := by have : E = 1073741789 := hE; omega
  have h1 : 4 ^ (n * (E - 1) + n) % 2147483579 = 0 := by rw [Nat.pow_add, Nat.mul_mod, h]; simp
  have h2 : n * (E - 1) + n = E * n := by
    obtain ⟨F, rfl⟩ : ∃ F, E = F + 1 := ⟨E - 1, by omega⟩
    rw [Nat.add_sub_cancel]; grind
  rw [h2, Nat.pow_mul, Nat.pow_mod, base_ord hE, Nat.one_pow] at h1
  simp at h1
theorem base_pos (n : Nat) : 4 ^ n % 2147483579 ≠ 0 := base_posE (E := 1073741789) rfl n
theorem base_mod (n : Nat) : 4 ^ n % 2147483579 = 4 ^ (n % 1073741789) % 2147483579 := base_modE (E := 1073741789) rfl n
theorem base_inj {a b : Nat} (h : 4 ^ a % 2147483579 = 4 ^ b % 2147483579) : a % 1073741789 = b % 1073741789 := base_injE (E := 1073741789) rfl h
end Go.Proofs.YtppkgcedkdeccaaDoor.D
/- Powers: impl.power, spec.l2Power; secrets; PublicOf on both sides. -/
namespace Go.Proofs.YtppkgcedkdeccaaDoor.D
open Go.RowKit

theorem hide {p : Prop} (h : p) : Hid p := h
theorem unhide {p : Prop} (h : Hid p) : p := h.out
theorem bAl {w w' : World} (h : Below w.heap.size w w') (o : Obj) : Below w.heap.size w (w'.alloc o) := h.alloc h.size o
theorem bTr {w a b : World} (h : Below w.heap.size w a) (k : Below a.heap.size a b) : Below w.heap.size w b := h.trans (k.mono h.size)
theorem ret_bool {a b : Bool} (h : a = b) : Ending.returned (.bool a) = .returned (.bool b) := by rw [h]
theorem ret_int {a b : Int} (h : a = b) : Ending.returned (.int .i64 a) = .returned (.int .i64 b) := by rw [h]

theorem mul_ok {a b m : Nat} (ha : a < m) (hb : b < m) (hm : m < 2147483648) : (0 : Int) ≤ (a : Int) * (b : Int) ∧ (a : Int) * (b : Int) < 4611686018427387904 := by
  have := mulLt ha hb hm
  rw [← Int.natCast_mul]; omega

/-- The power, under a name that no simp opens. -/
def pw (b e m : Nat) : Nat := b ^ e % m
theorem pw_lt (b e m : Nat) (h : 1 < m) : pw b e m < m := Nat.mod_lt _ (by omega)
theorem wraps_i64 (n : Int) (h₀ : 0 ≤ n) (h₁ : n < 2 ^ 63) : IntKind.i64.wrap n = n := by rw [IntKind.wrap_i64]; omega
theorem and1 (x : Int) (h0 : 0 ≤ x) (h1 : x < 9223372036854775808) : bits .and .i64 x 1 = x % 2 := bits_mask .i64 63 (by decide) wraps_i64 1 (by decide) x h0 h1
theorem odd_step (o b e m B E : Nat) (h : (o * b ^ e) % m = B ^ E % m) (he : e % 2 = 1) : ((o * b % m) * (b * b % m) ^ (e / 2)) % m = B ^ E % m := by rw [powOdd _ _ _ _ he, h]
theorem even_step (o b e m B E : Nat) (h : (o * b ^ e) % m = B ^ E % m) (he : e % 2 = 0) : (o * (b * b % m) ^ (e / 2)) % m = B ^ E % m := by rw [powEven _ _ _ _ he, h]

theorem up0 (a m n i : Nat) (h : n / 2 ^ i % 2 = 0) : (a ^ (n / 2 ^ (i + 1)) % m) * (a ^ (n / 2 ^ (i + 1)) % m) % m = a ^ (n / 2 ^ i) % m := by
  rw [Nat.pow_succ, ← Nat.div_div_eq_div_mul]; exact powUp0 a m _ h
theorem up1 (a m n i : Nat) (h : n / 2 ^ i % 2 = 1) : ((a ^ (n / 2 ^ (i + 1)) % m) * (a ^ (n / 2 ^ (i + 1)) % m) % m) * a % m = a ^ (n / 2 ^ i) % m := by
  rw [Nat.pow_succ, ← Nat.div_div_eq_div_mul]; exact powUp1 a m _ h

/-- A secret. -/
def secB (n : Int) : Bool := decide (1 ≤ n) && decide (n < 1073741789)
theorem secB_nat {n : Int} (h : secB n = true) : ∃ k : Nat, n = k ∧ 1 ≤ k ∧ k < 1073741789 := by
  simp [secB] at h
  exact ⟨n.toNat, by omega, by omega, by omega⟩
/-- The public number. -/
def pubOf (n : Int) : Nat := if secB n then pw 4 n.toNat 2147483579 else 0
end Go.Proofs.YtppkgcedkdeccaaDoor.D
/- Slices of bytes in memory; laws.toByteS, eqByteS, markByteS, heldByteS. -/
namespace Go.Proofs.YtppkgcedkdeccaaDoor.D
open Go.RowKit

def byteV (c : UInt8) : Value := .int .u8 (c.toNat : Int)
theorem cellB {W w' : World} {p : Addr} {v : Value} (hb : Below W.heap.size W w') (hz : p.block < W.heap.size) (hc : W.cell? p = some v) : w'.cell? p = some v := by
  rw [hb.cell hz]; exact hc
theorem cellC {B : Nat} {W w' : World} {p : Addr} {v : Value} (hb : Below B W w') (hz : p.block < B) (hc : W.cell? p = some v) : w'.cell? p = some v := by
  rw [hb.cell hz]; exact hc
theorem bDr {B : Nat} {w w' : World} (h : Below B w w') (k : Nat) : Below B w (w'.drewN k) := ⟨h.os, h.tape, h.output, h.size, h.block⟩

/-- Block b holds the cells C. -/
def RowIs (w : World) (b : Nat) (C : Array Value) (T : TypeId) : Prop := w.heap[b]? = some (.cells C T (0, 0))
theorem RowIs.cell {w : World} {b : Nat} {C : Array Value} {T : TypeId} (h : RowIs w b C T) (o : Nat) : w.cell? ⟨b, o, none⟩ = C[o]? := by
  unfold RowIs at h; simp [World.cell?, h]
theorem RowIs.at {w : World} {b o : Nat} {C : Array Value} {T : TypeId} {v : Value} (h : RowIs w b C T) (e : C[o]? = some v) : w.cell? ⟨b, o, none⟩ = some v := by rw [h.cell, e]
theorem RowIs.froz {w : World} {b : Nat} {C : Array Value} {T : TypeId} (h : RowIs w b C T) (o : Nat) : w.frozen? ⟨b, o, none⟩ = false := by
  unfold RowIs at h; simp [World.frozen?, h]
theorem RowIs.lt {w : World} {b : Nat} {C : Array Value} {T : TypeId} (h : RowIs w b C T) : b < w.heap.size := by
  unfold RowIs at h; exact (Array.getElem?_eq_some_iff.1 h).1
theorem RowIs.keepB {B : Nat} {w w1 : World} {b : Nat} {C : Array Value} {T : TypeId} (h : RowIs w b C T) (hb : Below B w w1) (hl : b < B) : RowIs w1 b C T := by
  unfold RowIs at *; rw [hb.block b hl]; exact h
theorem RowIs.keep {w w1 : World} {b : Nat} {C : Array Value} {T : TypeId} (h : RowIs w b C T) (hb : Below w.heap.size w w1) : RowIs w1 b C T := h.keepB hb h.lt
theorem RowIs.set {w : World} {b : Nat} {C : Array Value} {T : TypeId} (h : RowIs w b C T) (o : Nat) (v : Value) : RowIs (w.setCell ⟨b, o, none⟩ v) b (C.setIfInBounds o v) T :=
  heap_setCell_same w b o C T v h
theorem RowIs.new (w : World) (C : Array Value) (T : TypeId) : RowIs (w.alloc (.cells C T)) w.heap.size C T := by
  unfold RowIs; show (w.heap.push _)[w.heap.size]? = _; simp
theorem RowIs.drN {w : World} {b : Nat} {C : Array Value} {T : TypeId} (h : RowIs w b C T) (n : Nat) : RowIs (w.drewN n) b C T := h

/-- All that was there but block b is as it was. -/
structure But (b : Nat) (w w' : World) : Prop where
  os : w'.os = w.os
  tape : w'.tape = w.tape
  output : w'.output = w.output
  size : w.heap.size ≤ w'.heap.size
  block : ∀ k, k < w.heap.size → k ≠ b → w'.heap[k]? = w.heap[k]?
theorem But.refl (b : Nat) (w : World) : But b w w := ⟨rfl, rfl, rfl, Nat.le_refl _, fun _ _ _ => rfl⟩
theorem But.trans {b : Nat} {x y z : World} (h : But b x y) (k : But b y z) : But b x z :=
  ⟨k.os.trans h.os, k.tape.trans h.tape, k.output.trans h.output, Nat.le_trans h.size k.size, fun i hi hn => (k.block i (Nat.lt_of_lt_of_le hi h.size) hn).trans (h.block i hi hn)⟩
theorem But.of {b : Nat} {w w' : World} (h : Below w.heap.size w w') : But b w w' := ⟨h.os, h.tape, h.output, h.size, fun k hk _ => h.block k hk⟩
theorem But.below {b B : Nat} {w w' : World} (h : But b w w') (hb : B ≤ b) (hw : B ≤ w.heap.size) : Below B w w' := ⟨h.os, h.tape, h.output, h.size, fun k hk => h.block k (by omega) (by omega)⟩
theorem But.set {b o : Nat} {w w' : World} (h : But b w w') (v : Value) : But b w (w'.setCell ⟨b, o, none⟩ v) :=
  h.trans ⟨rfl, rfl, rfl, by simp [World.setCell], fun k _ hn => heap_setCell_other w' ⟨b, o, none⟩ k v hn⟩
theorem But.dr {b : Nat} {w w' : World} (h : But b w w') (n : Nat) : But b w (w'.drewN n) := h.trans ⟨rfl, rfl, rfl, Nat.le_refl _, fun _ _ _ => rfl⟩
theorem But.al {b : Nat} {w w' : World} (h : But b w w') (o : Obj) : But b w (w'.alloc o) := h.trans (But.of (bAl (Below.refl _ _) o))
theorem But.cell {b : Nat} {w w' : World} (h : But b w w') {p : Addr} {v : Value} (hp : p.block < w.heap.size) (hn : p.block ≠ b) (hc : w.cell? p = some v) : w'.cell? p = some v := by
  rw [World.cell?_of_block (h.block p.block hp hn)]; exact hc
theorem But.row {b : Nat} {w w' : World} (h : But b w w') {k : Nat} {C : Array Value} {T : TypeId} (hr : RowIs w k C T) (hn : k ≠ b) : RowIs w' k C T := by
  have hl := hr.lt
  unfold RowIs at *; rw [h.block k hl hn]; exact hr

/-- The bytes l lie in block b from off on. -/
structure BRow (w : World) (b off : Nat) (l : List UInt8) : Prop where
  z : b < w.heap.size
  c : ∀ i (h : i < l.length), w.cell? ⟨b, off + i, none⟩ = some (byteV l[i])
/-- The slice a, len reads as l; all of it lies below B. -/
def SlB (w : World) (B : Nat) (a : Option Addr) (len : Nat) (l : List UInt8) : Prop := len = l.length ∧ (l = [] ∨ ∃ b off, a = some ⟨b, off, none⟩ ∧ b < B ∧ BRow w b off l)
theorem SlB.keepB {B : Nat} {w w1 : World} {a : Option Addr} {len : Nat} {l : List UInt8} (h : SlB w B a len l) (hb : Below B w w1) : SlB w1 B a len l :=
  ⟨h.1, by
    rcases h.2 with e | ⟨b, off, e, hB, r⟩
    · exact .inl e
    · exact .inr ⟨b, off, e, hB, Nat.lt_of_lt_of_le r.z hb.size, fun i hi => cellC hb hB (r.c i hi)⟩⟩
theorem SlB.keep {B : Nat} {w w1 : World} {a : Option Addr} {len : Nat} {l : List UInt8} (h : SlB w B a len l) (hb : Below w.heap.size w w1) : SlB w1 B a len l :=
  ⟨h.1, by
    rcases h.2 with e | ⟨b, off, e, hB, r⟩
    · exact .inl e
    · exact .inr ⟨b, off, e, hB, Nat.lt_of_lt_of_le r.z hb.size, fun i hi => cellB hb r.z (r.c i hi)⟩⟩
theorem SlB.mono {B B' : Nat} {w : World} {a : Option Addr} {len : Nat} {l : List UInt8} (h : SlB w B a len l) (hB : B ≤ B') : SlB w B' a len l :=
  ⟨h.1, h.2.imp_right fun ⟨b, off, e, z, r⟩ => ⟨b, off, e, Nat.lt_of_lt_of_le z hB, r⟩⟩
theorem SlB.at {B : Nat} {w : World} {a : Option Addr} {len : Nat} {l : List UInt8} (h : SlB w B a len l) {k : Nat} (hk : k < len) : ∃ b off, a = some ⟨b, off, none⟩ ∧ b < B ∧ b < w.heap.size ∧ ∀ i (h : i < l.length), w.cell? ⟨b, off + i, none⟩ = some (byteV l[i]) := by
  rcases h.2 with e | ⟨b, off, e, z, r⟩
  · rw [h.1, e] at hk; simp at hk
  · exact ⟨b, off, e, z, r.z, r.c⟩

/-- A block whose cells are bytes, just these. -/
def cellsOf (l : List UInt8) : Array Value := (l.map byteV).toArray
theorem cellsOf_get (l : List UInt8) (i : Nat) (h : i < l.length) : (cellsOf l)[i]? = some (byteV l[i]) := by simp [cellsOf, h]
theorem slB_row {w : World} {b B : Nat} {l : List UInt8} (h : RowIs w b (cellsOf l) 5) (hB : b < B) : SlB w B (some ⟨b, 0, none⟩) l.length l :=
  ⟨rfl, .inr ⟨b, 0, rfl, hB, h.lt, fun i hi => by rw [Nat.zero_add, h.cell]; exact cellsOf_get l i hi⟩⟩
theorem own_row {w : World} {b base : Nat} {l : List UInt8} (h : RowIs w b (cellsOf l) 5) (hB : base ≤ b) (hl : l.length ≤ maxLen) : w.ownsRow base 5 1 (.slice (some ⟨b, 0, none⟩) l.length l.length) l.length (l.map byteV) := by
  refine ⟨by simp, .inr ⟨b, l.length, cellsOf l, rfl, hB, h, Nat.le_refl _, hl, by simp [cellsOf], ?_⟩⟩
  simp only [cellsOf]
  rw [List.take_of_length_le (by simp)]
/-- What is owned reads as a slice. -/
theorem own_sl {w : World} {base : Nat} {v : Value} {l : List UInt8} (h : w.ownsRow base 5 1 v l.length (l.map byteV)) : ∃ a cap, v = .slice a l.length cap ∧ SlB w w.heap.size a l.length l := by
  rcases h.2 with ⟨rfl, e⟩ | ⟨g, cap, cur, rfl, _, hh, _, _, hsz, htk⟩
  · have : l = [] := List.length_eq_zero_iff.1 e
    subst this
    exact ⟨none, 0, rfl, rfl, .inl rfl⟩
  · have hr : RowIs w g cur 5 := hh
    refine ⟨_, _, rfl, rfl, .inr ⟨g, 0, rfl, hr.lt, hr.lt, fun i hi => ?_⟩⟩
    have f0 : (l.map byteV)[i]? = some (byteV l[i]) := by simp [hi]
    rw [← htk, List.getElem?_take] at f0
    rw [Nat.zero_add, hr.cell, ← Array.getElem?_toList]
    split at f0
    · exact f0
    · cases f0
theorem own_but {w w' : World} {base b n : Nat} {v : Value} {xs : List Value} (h : w.ownsRow base 5 1 v n xs) (hb : But b w w') (hl : b < base) : w'.ownsRow base 5 1 v n xs := by
  refine ⟨h.1, h.2.imp_right ?_⟩
  rintro ⟨g, cap, cur, e, h1, hh, r⟩
  exact ⟨g, cap, cur, e, h1, hb.row (T := 5) hh (by omega), r⟩
theorem own_keep {w w' : World} {base n : Nat} {v : Value} {xs : List Value} (h : w.ownsRow base 5 1 v n xs) (hb : Below w.heap.size w w') : w'.ownsRow base 5 1 v n xs := by
  refine ⟨h.1, h.2.imp_right ?_⟩
  rintro ⟨g, cap, cur, e, h1, hh, r⟩
  exact ⟨g, cap, cur, e, h1, RowIs.keep (T := 5) hh hb, r⟩

theorem info_u8 : (Tryd.prog.info? 5).map (fun i => (i.zero, i.size, i.bytes)) = some (some (.int .u8 0), 1, 1) := by kernel_rfl
/-- 'make([]byte, n)'. -/
theorem make_bytes (n : Nat) (w : World) (h : n ≤ 1048576) : ∃ w1, (Instr.makeSlice 22 (.int .i64 (n : Int)) (.int .i64 (n : Int))).run Tryd.prog w = .ok (.slice (some ⟨w.heap.size, 0, none⟩) n n) w1 ∧
    Below w.heap.size w w1 ∧ RowIs w1 w.heap.size (cellsOf (List.replicate n 0)) 5 := by
  obtain ⟨i, h1, h2⟩ := Option.map_eq_some_iff.1 info_u8
  simp only [Prod.mk.injEq] at h2
  obtain ⟨hz, hsz, hby⟩ := h2
  have hr := run_make (P := Tryd.prog) w 22 5 i _ Tryd.underlying22 h1 hz .i64 .i64 (n : Int) (n : Int) (by omega) (by omega) (by rw [hby]; omega) (by omega)
  rw [Int.toNat_natCast, hsz, Nat.mul_one] at hr
  have e : madeCells (Value.int .u8 0).cells n = cellsOf (List.replicate n 0) := by
    refine Array.ext (by simp [cellsOf, madeCells]) (fun i h1 h2 => ?_)
    simp [madeCells, cellsOf, byteV, Value.cells, Nat.mod_one]
  refine ⟨_, hr, bAl (Below.refl _ _) _, ?_⟩
  rw [← e]; exact RowIs.new _ _ _

theorem cellsOf_set (l : List UInt8) (k : Nat) (c : UInt8) : (cellsOf l).setIfInBounds k (byteV c) = cellsOf (l.set k c) := by
  apply Array.toList_inj.1
  simp [cellsOf]
theorem set_take (C l : List UInt8) (k : Nat) (hk : k < l.length) (hC : C.length = l.length) (h : C.take k = l.take k) : (C.set k l[k]).take (k + 1) = l.take (k + 1) := by
  rw [List.take_succ_eq_append_getElem (by simp; omega), List.take_succ_eq_append_getElem hk, List.take_set_of_le (Nat.le_refl _), h]
  simp

set_option maxHeartbeats 400000 in
theorem toByteS_any (a : Option Addr) (len cap : Nat) (l : List UInt8) (w : World) (hl : len ≤ 1048576) (hs : SlB w w.heap.size a len l) :
    Calls Tryd.prog 36 #[.slice a len cap] w fun e w' => e = .returned (.slice (some ⟨w.heap.size, 0, none⟩) len len) ∧ RowIs w' w.heap.size (cellsOf l) 5 ∧ Below w.heap.size w w' := by
  obtain ⟨w1, hrun, hb1, hr1⟩ := make_bytes len w hl
  have HS := hide hs
  have HB1 := hide hb1
  have HR1 := hide hr1
  clear hs hb1 hr1
  go_enter Tryd.func36, Tryd.ntmps36
  go_wp2_with fail
  clear hrun
  go_loopw [4] (fun i w' => ∃ (k : Nat) (C : List UInt8), k ≤ len ∧ i = .int .i64 k ∧ Hid (Below w.heap.size w w') ∧ Hid (RowIs w' w.heap.size (cellsOf C) 5) ∧ Hid (C.length = l.length) ∧ Hid (C.take k = l.take k)) (fun i _ => len - (intOf i).toNat)
  case atStart => exact ⟨0, _, Nat.zero_le _, rfl, HB1, HR1, hide (by rw [List.length_replicate]; exact (unhide HS).1), hide (by simp)⟩
  case round =>
    obtain ⟨k, C, hk, rfl, hb, hr, hC, hF⟩ := hrel
    by_cases hlt : k < len
    · obtain ⟨b, off, rfl, _, _, hrow⟩ := ((unhide HS).keep (unhide hb)).at hlt
      have hk' : k < l.length := by rw [← (unhide HS).1]; exact hlt
      have c0 := hrow k hk'
      have fr := (unhide hr).froz k
      have hck : k < C.length := by rw [unhide hC]; exact hk'
      have c1 := (unhide hr).at (cellsOf_get C k hck)
      have hz : w.heap.size < wr.heap.size := (unhide hr).lt
      have hF' := hide (set_take C l k hk' (unhide hC) (unhide hF))
      clear hrow
      generalize l[k] = A at c0 hF'
      generalize C[k] = D at c1
      unfold byteV at c0 c1
      go_wp2_with fail
      exact ⟨⟨k + 1, C.set k A, by omega, by go_num, hide ((unhide hb).setCell (Nat.le_refl _) _), hide (by rw [← cellsOf_set]; exact (unhide hr).set k _), hide (by rw [List.length_set]; exact unhide hC), hF'⟩, by simp [intOf]; omega⟩
    · go_wp2_with fail
      go_ret
      have e : k = l.length := by rw [← (unhide HS).1]; omega
      have e2 : C = l := by
        have := unhide hF
        rwa [e, List.take_of_length_le (Nat.le_of_eq (unhide hC)), List.take_of_length_le (Nat.le_refl _)] at this
      exact ⟨rfl, by rw [← e2]; exact unhide hr, unhide hb⟩

theorem eq_take (l m : List UInt8) (k : Nat) (h1 : k < l.length) (h2 : k < m.length) (h : l.take k = m.take k) (e : l[k] = m[k]) : l.take (k + 1) = m.take (k + 1) := by
  rw [List.take_succ_eq_append_getElem h1, List.take_succ_eq_append_getElem h2, h, e]
theorem u8_ne {a b : UInt8} : ((a.toNat : Int) != (b.toNat : Int)) = !(decide (a = b)) := by
  by_cases h : a = b
  · subst h; simp
  · have : (a.toNat : Int) ≠ b.toNat := fun e => h (UInt8.toNat_inj.1 (by omega))
    simp [h, this]

set_option maxHeartbeats 400000 in
theorem eqByteS_any (a b : Option Addr) (la lb ca cb : Nat) (l m : List UInt8) (w : World) (hl : la ≤ 1048576) (hlb : lb ≤ 1048576) (ha : SlB w w.heap.size a la l) (hb : SlB w w.heap.size b lb m) :
    Calls Tryd.prog 39 #[.slice a la ca, .slice b lb cb] w fun e w' => e = .returned (.bool (decide (l = m))) ∧ Below w.heap.size w w' := by
  have HA := hide ha
  have HB := hide hb
  clear ha hb
  by_cases hne : la = lb
  · subst hne
    have d1 : ((la : Int) != (la : Int)) = false := by simp
    go_enter Tryd.func39, Tryd.ntmps39
    go_wp2_with fail
    go_loopw [5] (fun i w' => ∃ (k : Nat), k ≤ la ∧ i = .int .i64 k ∧ Hid (Below w.heap.size w w') ∧ Hid (l.take k = m.take k)) (fun i _ => la - (intOf i).toNat)
    case atStart => exact ⟨0, Nat.zero_le _, rfl, hide (Below.refl _ _), hide (by simp)⟩
    case round =>
      obtain ⟨k, hk, rfl, hbel, hF⟩ := hrel
      by_cases hlt : k < la
      · obtain ⟨b1, o1, rfl, _, _, r1⟩ := ((unhide HA).keep (unhide hbel)).at hlt
        obtain ⟨b2, o2, rfl, _, _, r2⟩ := ((unhide HB).keep (unhide hbel)).at hlt
        have k1 : k < l.length := by rw [← (unhide HA).1]; exact hlt
        have k2 : k < m.length := by rw [← (unhide HB).1]; exact hlt
        have c1 := r1 k k1
        have c2 := r2 k k2
        have hne := u8_ne (a := l[k]) (b := m[k])
        have hst := hide (eq_take l m k k1 k2 (unhide hF))
        have hno := hide (show l[k] ≠ m[k] → l ≠ m by intro h e; subst e; exact h rfl)
        clear r1 r2
        generalize l[k] = A at c1 hne hst hno
        generalize m[k] = D at c2 hne hst hno
        unfold byteV at c1 c2
        have i0 : (0 : Int) ≤ (k : Int) := by omega
        have i1 : (k : Int) < (la : Int) := by omega
        by_cases hAD : A = D
        · rw [decide_eq_true hAD] at hne
          have hne' : ((A.toNat : Int) != (D.toNat : Int)) = false := hne
          clear hne
          go_wp2_with fail
          go_quiet (fail)
          go_wp2_with fail
          exact ⟨⟨k + 1, by omega, by go_num, hide (bDr (unhide hbel) _), hide (unhide hst hAD)⟩, by simp [intOf]; omega⟩
        · rw [decide_eq_false hAD] at hne
          have hne' : ((A.toNat : Int) != (D.toNat : Int)) = true := hne
          clear hne
          go_wp2_with fail
          go_quiet (fail)
          go_wp2_with fail
          go_ret
          exact ⟨ret_bool (by rw [decide_eq_false (unhide hno hAD)]), bDr (unhide hbel) _⟩
      · go_wp2_with fail
        go_ret
        have e : k = la := by omega
        have := unhide hF
        rw [e, List.take_of_length_le (Nat.le_of_eq (unhide HA).1.symm), List.take_of_length_le (Nat.le_of_eq (unhide HB).1.symm)] at this
        exact ⟨ret_bool (by rw [decide_eq_true this]), unhide hbel⟩
  · have d1 : ((la : Int) != (lb : Int)) = true := by simp; omega
    go_enter Tryd.func39, Tryd.ntmps39
    go_wp2_with fail
    go_ret
    exact ⟨ret_bool (by rw [decide_eq_false]; intro e; rw [(unhide HA).1, (unhide HB).1, e] at hne; exact hne rfl), Below.refl _ _⟩

/-- The byte that is marked in place i. -/
def markV (k : Int) (i : Nat) : Value := .int .u8 (IntKind.u8.wrap (k + (i : Int)))
/-- The first n cells bear the marks from k on. -/
def MarkedTo (C : Array Value) (k : Int) (n : Nat) : Prop := ∀ i, i < n → C[i]? = some (markV k i)
theorem MarkedTo.set {C : Array Value} {k : Int} {n : Nat} (h : MarkedTo C k n) (hn : n < C.size) : MarkedTo (C.setIfInBounds n (markV k n)) k (n + 1) := by
  intro i hi
  by_cases e : i = n
  · subst e; simp [hn]
  · rw [Array.getElem?_setIfInBounds, if_neg (by omega)]; exact h i (by omega)

set_option maxHeartbeats 400000 in
theorem mark_any (g n cap : Nat) (C : Array Value) (k : Int) (w : World) (hn : n ≤ 1048576) (hk : 0 ≤ k) (hk2 : k ≤ 1048576) (hC : n ≤ C.size) (hr : RowIs w g C 5) :
    Calls Tryd.prog 41 #[.slice (some ⟨g, 0, none⟩) n cap, .int .i64 k] w fun e w' => e = .returned (.int .i64 (k + n)) ∧ (∃ C', C'.size = C.size ∧ MarkedTo C' k n ∧ RowIs w' g C' 5) ∧ But g w w' := by
  have HR := hide hr
  have HC := hide hC
  clear hr hC
  go_enter Tryd.func41, Tryd.ntmps41
  go_wp2_with fail
  go_loopw [1, 5] (fun q i w' => ∃ (j : Nat) (C' : Array Value), j ≤ n ∧ i = .int .i64 j ∧ q = .int .i64 (k + j) ∧ Hid (C'.size = C.size) ∧ Hid (MarkedTo C' k j) ∧ Hid (RowIs w' g C' 5) ∧ Hid (But g w w')) (fun _ i _ => n - (intOf i).toNat)
  case atStart => exact ⟨0, C, Nat.zero_le _, rfl, by simp, hide rfl, hide (fun i hi => absurd hi (Nat.not_lt_zero _)), HR, hide (But.refl _ _)⟩
  case round =>
    obtain ⟨j, C', hj, rfl, rfl, hsz, hM, hr', hbut⟩ := hrel
    by_cases hlt : j < n
    · have hjC : j < C'.size := by rw [unhide hsz]; exact Nat.lt_of_lt_of_le hlt (unhide HC)
      have fr := (unhide hr').froz j
      have c1 := (unhide hr').at (o := j) (v := C'[j]) (by simp)
      have hM' := hide ((unhide hM).set hjC)
      generalize C'[j] = D at c1
      go_wp2_with fail
      exact ⟨⟨j + 1, C'.setIfInBounds j (markV k j), by omega, by go_num, by simp only [Value.int.injEq, true_and]; omega, hide (by rw [Array.size_setIfInBounds]; exact unhide hsz), hM', hide ((unhide hr').set j _), hide ((unhide hbut).set _)⟩, by simp [intOf]; omega⟩
    · go_wp2_with fail
      go_ret
      have e : j = n := by omega
      subst e
      exact ⟨rfl, ⟨C', unhide hsz, unhide hM, unhide hr'⟩, unhide hbut⟩

end Go.Proofs.YtppkgcedkdeccaaDoor.D
