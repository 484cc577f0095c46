/- KXl, DArith, one behind the other. -/
import Derived.Test.YtdflnjjomljgmaaGreatDoorRows
import Derived.Test.YtdflnjjomljgmaaGreatDoorJ20
import Derived.ProofKit
import Derived.LaidMore
import Derived.OpenShut
import Derived.ChangeVars
import Derived.Stop.Joined
import Derived.Stop.LaidErr
/- What TermText's law needs of the laid tables. -/
namespace Go.Proofs.YtdflnjjomljgmaaGreatDoor.V
set_option linter.unusedVariables false
set_option maxRecDepth 20000
open Go.ChangeShapes Go.WideShapes Go.ChangeAt Go.RowKit

theorem own : ownKnob Tryz.prog.godebug = none := by kernel_rfl
theorem laidOut : laidOutB Tryz.prog = true := by kernel_rfl
def laidT {H : Type} : List (String × DataW H) := [("math/bits.deBruijn32tab", Rows.laid_math_bits_deBruijn32tab), ("math/bits.deBruijn64tab", Rows.laid_math_bits_deBruijn64tab), ("internal/strconv.uint64pow10", Rows.laid_internal_strconv_uint64pow10), ("loop.example/g00036/impl.opSigns", Rows.laid_loop_example_g00036_impl_opSigns)]
theorem door_met (os : Os) (args : Array Value) : laidMetH Tryz.prog laidT ((World.doorLaid Tryz.prog 400 os).forCall (fun _ _ => 0) ⟨#[], args, []⟩).memory :=
  laidMetH_of_parts3 (fuel := 8) (laidMet_of_run' 8 (by kernel_rfl) (by kernel_rfl)) (by kernel_rfl) (by kernel_rfl)
theorem pow_is : (Rows.laid_internal_strconv_uint64pow10 : DataW Unit) = Lib.tabData .u64 Lib.pow10Tab := by rfl
theorem tPow : (Tryz.prog.globals[3]?).map (·.type) = some 177 := by kernel_rfl
theorem tab_of_laid {W : World} (h : laidMetH Tryz.prog laidT W) : Tab W := by
  rw [MakeChecks.laidMetH_plain _ _ _ (by kernel_rfl)] at h
  have h2 := h.tail.tail
  rw [pow_is] at h2
  exact Lib.tabIs_of_head gPow tPow Tryz.underlying177 Tryz.underlying166 (by kernel_rfl) (by kernel_rfl) h2
theorem gKw : Tryz.prog.globalNamed "loop.example/g00036/impl.opSigns" = some 0 := by kernel_rfl
theorem tKw : (Tryz.prog.globals[0]?).map (·.type) = some 137 := by kernel_rfl
def cellsK : Array Value := #[.string ⟨#[]⟩, .string ⟨#[61, 61]⟩, .string ⟨#[60]⟩, .string ⟨#[60, 61]⟩, .string ⟨#[105, 110]⟩]
theorem reads_kw {H : Type} (enc : TypeId × Value → H) (W : World) (sp : Nat → Bool) : DataW.trod enc Tryz.prog W 0 sp true 3 137 cellsK.toList = some (Rows.laid_loop_example_g00036_impl_opSigns, []) := by kernel_rfl
theorem strLit {l : List UInt8} {s : ByteArray} (h : s.data.toList = l) : s = ⟨l.toArray⟩ := by
  obtain ⟨d⟩ := s
  obtain ⟨m⟩ := d
  simp at h
  rw [h]
theorem strLit0 {a : Array UInt8} {s : ByteArray} (h : s.data = a) : s = ⟨a⟩ := by
  obtain ⟨d⟩ := s
  simp at h
  rw [h]
theorem cells_of_met {W : World} (h : laidMet Tryz.prog [("loop.example/g00036/impl.opSigns", Rows.laid_loop_example_g00036_impl_opSigns)] W) : W.var? Tryz.prog "loop.example/g00036/impl.opSigns" = some cellsK := by
  obtain ⟨ps, ⟨g, t, cs, fuel, p, q, hg, ht, hvar, hd, _, _⟩, _⟩ := h
  obtain rfl := Option.some.inj (gKw.symm.trans hg)
  obtain rfl := Option.some.inj (tKw.symm.trans ht)
  rw [hvar]
  congr 1
  obtain ⟨l⟩ := cs
  obtain ⟨xs, m1, rfl, hx1, hlen, hn4, hel⟩ := DataW.trod_array Tryz.underlying137 hd
  have c3 : Tryz.prog.cellsOf 9 = 1 := by kernel_rfl
  have hl4 : l.length = 5 := by
    have c67 : Tryz.prog.cellsOf 137 = 5 := by kernel_rfl
    simpa [c67] using hlen
  obtain ⟨y0, y1, y2, y3, y4, rfl⟩ : ∃ y0 y1 y2 y3 y4, l = [y0, y1, y2, y3, y4] := by
    match l, hl4 with
    | [a, b, c, d, e], _ => exact ⟨a, b, c, d, e, rfl⟩
  have h0 := hel 0 (by decide)
  have h1 := hel 1 (by decide)
  have h2 := hel 2 (by decide)
  have h3 := hel 3 (by decide)
  have h4 := hel 4 (by decide)
  simp only [Prod.mk.injEq, DataW.agg.injEq, Rows.laid_loop_example_g00036_impl_opSigns] at hx1
  match xs, hn4, hx1, h0, h1, h2, h3, h4 with
  | [x0, x1, x2, x3, x4], _, hx1, h0, h1, h2, h3, h4 =>
    simp only [List.map_cons, List.map_nil, List.cons.injEq] at hx1
    obtain ⟨k0, e0, f0, _⟩ := DataW.trod_string Tryz.underlying9 (show DataW.trod _ Tryz.prog W 0 _ false m1 9 _ = some x0 from h0)
    obtain ⟨k1, e1, f1, _⟩ := DataW.trod_string Tryz.underlying9 (show DataW.trod _ Tryz.prog W 0 _ false m1 9 _ = some x1 from h1)
    obtain ⟨k2, e2, f2, _⟩ := DataW.trod_string Tryz.underlying9 (show DataW.trod _ Tryz.prog W 0 _ false m1 9 _ = some x2 from h2)
    obtain ⟨k3, e3, f3, _⟩ := DataW.trod_string Tryz.underlying9 (show DataW.trod _ Tryz.prog W 0 _ false m1 9 _ = some x3 from h3)
    obtain ⟨k4, e4, f4, _⟩ := DataW.trod_string Tryz.underlying9 (show DataW.trod _ Tryz.prog W 0 _ false m1 9 _ = some x4 from h4)
    rw [f0, f1, f2, f3, f4] at hx1
    rw [c3] at e0 e1 e2 e3 e4
    simp only [List.drop_zero, List.drop_succ_cons, List.take_succ_cons, List.take_zero, List.cons.injEq, and_true, Nat.mul_one] at e0 e1 e2 e3 e4
    simp at hx1 e0 e1 e2 e3 e4
    obtain ⟨⟨g0, g1, g2, g3, g4⟩, _⟩ := hx1
    subst e0 e1 e2 e3 e4
    first | rw [strLit g0] | rw [strLit g0.symm] | rw [strLit0 g0] | rw [strLit0 g0.symm]
    first | rw [strLit g1] | rw [strLit g1.symm] | rw [strLit0 g1] | rw [strLit0 g1.symm]
    first | rw [strLit g2] | rw [strLit g2.symm] | rw [strLit0 g2] | rw [strLit0 g2.symm]
    first | rw [strLit g3] | rw [strLit g3.symm] | rw [strLit0 g3] | rw [strLit0 g3.symm]
    first | rw [strLit g4] | rw [strLit g4.symm] | rw [strLit0 g4] | rw [strLit0 g4.symm]
    rfl
theorem cells_of_laid {W : World} (h : laidMetH Tryz.prog laidT W) : W.var? Tryz.prog "loop.example/g00036/impl.opSigns" = some cellsK := by
  rw [MakeChecks.laidMetH_plain _ _ _ (by kernel_rfl)] at h
  exact cells_of_met h.tail.tail.tail
theorem signs_of {W : World} (h : W.var? Tryz.prog "loop.example/g00036/impl.opSigns" = some cellsK) : Signs W := by
  have hc := World.var?_cell gKw h
  have hz : 0 < W.heap.size := by
    apply Classical.byContradiction
    intro hn
    have h0 := hc 0
    unfold World.cell? at h0
    rw [Array.getElem?_eq_none (by show W.heap.size ≤ 0; omega)] at h0
    simp [cellsK] at h0
  exact ⟨hz, hc 0, hc 1, hc 2, hc 3, hc 4⟩
theorem vars_kept {H : Type} (enc : TypeId × Value → H) {W W' : World} {sp : Nat → Bool} (h : W.var? Tryz.prog "loop.example/g00036/impl.opSigns" = some cellsK) (hz : 0 < W.heap.size) (hb : Below W.heap.size W W') :
    DataW.TrodVars enc Tryz.prog W' sp ["loop.example/g00036/impl.opSigns"] [Rows.laid_loop_example_g00036_impl_opSigns] (MemPlace.row ⟨0, 0, none⟩ cellsK.size ++ [] ++ []) := by
  have hv : W'.var? Tryz.prog "loop.example/g00036/impl.opSigns" = some cellsK := by
    rw [← h]
    unfold World.var?
    rw [gKw]
    simp only [Option.bind_some]
    rw [hb.block 0 hz]
  exact ⟨0, 137, cellsK, 3, [], [], gKw, tKw, hv, reads_kw enc W' sp, rfl, rfl⟩
end Go.Proofs.YtdflnjjomljgmaaGreatDoor.V
/- Powers modulo a number, primes, polynomials, Fermat, the order of the base. -/
namespace Go.Proofs.YtdflnjjomljgmaaGreatDoor.D
theorem powOdd (out b m e : Nat) (h : e % 2 = 1) : ((out * b % m) * (b * b % m)^(e/2)) % m = (out * b^e) % m := by
  have h1 : ((out * b % m) * (b * b % m)^(e/2)) % m = ((out * b) * (b * b)^(e/2)) % m := by
    rw [Nat.mul_mod, Nat.mod_mod, ← Nat.pow_mod, ← Nat.mul_mod]
  have h2 : b ^ e = b * (b * b)^(e/2) := by
    have : e = 2 * (e / 2) + 1 := by omega
    conv => lhs; rw [this, Nat.pow_succ, Nat.pow_mul, Nat.mul_comm]
    rw [Nat.pow_two]
  rw [h1, h2, Nat.mul_assoc]
theorem powEven (out b m e : Nat) (h : e % 2 = 0) : (out * (b * b % m)^(e/2)) % m = (out * b^e) % m := by
  have h1 : (out * (b * b % m)^(e/2)) % m = (out * (b * b)^(e/2)) % m := by
    rw [Nat.mul_mod, ← Nat.pow_mod, ← Nat.mul_mod]
  have h2 : b ^ e = (b * b)^(e/2) := by
    have : e = 2 * (e / 2) := by omega
    conv => lhs; rw [this, Nat.pow_mul]
    rw [Nat.pow_two]
  rw [h1, h2]
/-- The model's step: from the higher bits to one more. -/
theorem powUp0 (a m n : Nat) (h : n % 2 = 0) : (a ^ (n / 2) % m) * (a ^ (n / 2) % m) % m = a ^ n % m := by
  rw [← Nat.mul_mod, ← Nat.pow_add]; congr 2; omega
theorem powUp1 (a m n : Nat) (h : n % 2 = 1) : ((a ^ (n / 2) % m) * (a ^ (n / 2) % m) % m) * a % m = a ^ n % m := by
  rw [← Nat.mul_mod, ← Nat.pow_add, Nat.mod_mul_mod, ← Nat.pow_succ]; congr 2; omega
theorem mulLt {a b m : Nat} (ha : a < m) (hb : b < m) (hm : m < 2147483648) : a * b < 4611686018427387904 := by
  have := Nat.mul_le_mul (Nat.le_of_lt_succ (Nat.lt_of_lt_of_le ha (show m ≤ 2147483647 + 1 by omega))) (Nat.le_of_lt_succ (Nat.lt_of_lt_of_le hb (show m ≤ 2147483647 + 1 by omega)))
  omega
def noDiv (n lo : Nat) : Nat → Bool
  | 0 => n % lo != 0
  | k + 1 => noDiv n lo k && noDiv n (lo + 2 ^ k) k
theorem noDiv_of {n k : Nat} : ∀ {lo}, noDiv n lo k = true → ∀ d, lo ≤ d → d < lo + 2 ^ k → n % d ≠ 0 := by
  induction k with
  | zero => intro lo h d h1 h2; obtain rfl : d = lo := by omega
            simpa [noDiv] using h
  | succ k ih =>
    intro lo h d h1 h2
    simp only [noDiv, Bool.and_eq_true] at h
    rw [Nat.pow_succ] at h2
    by_cases hd : d < lo + 2 ^ k
    · exact ih h.1 d h1 hd
    · exact ih h.2 d (by omega) (by omega)
def ord : Nat := 1073741789
def prm : Nat := 2147483579
set_option maxRecDepth 100000 in
theorem ord_noDiv : noDiv 1073741789 2 15 = true := by decide +kernel
theorem ord_prime (d : Nat) (h1 : 1 < d) (h2 : d < 1073741789) : 1073741789 % d ≠ 0 := by
  intro h
  by_cases hd : d < 2 + 2 ^ 15
  · exact noDiv_of ord_noDiv d (by omega) hd h
  · have hm := Nat.div_add_mod 1073741789 d
    rw [h] at hm
    generalize hq : 1073741789 / d = q at hm
    have hq0 : q ≠ 0 := by intro e; subst e; omega
    have hq1 : q ≠ 1 := by intro e; subst e; omega
    have hql : q < 2 + 2 ^ 15 := by
      apply Nat.lt_of_not_le
      intro hge
      have := Nat.mul_le_mul (show 32770 ≤ d by omega) (show 32770 ≤ q by omega)
      omega
    have : 1073741789 % q = 0 := by
      have e : 1073741789 = d * q := by omega
      rw [e]; exact Nat.mul_mod_left _ _
    exact noDiv_of ord_noDiv q (by omega) hql this
theorem ord_coprime (a : Nat) (h1 : 0 < a) (h2 : a < 1073741789) : Nat.gcd a 1073741789 = 1 := by
  have hl : Nat.gcd a 1073741789 ≤ a := Nat.gcd_le_left _ h1
  have hp : 0 < Nat.gcd a 1073741789 := Nat.gcd_pos_of_pos_left _ h1
  have hd := Nat.gcd_dvd_right a 1073741789
  apply Classical.byContradiction
  intro hn
  exact ord_prime _ (by omega) (by omega) (Nat.mod_eq_zero_of_dvd hd)
def ev : List Int → Int → Int
  | [], _ => 0
  | c :: cs, z => c + z * ev cs z
def dq : List Int → Int → List Int
  | [], _ => []
  | c :: cs, a => ev (c :: cs) a :: dq cs a
theorem dq_len (cs : List Int) (a : Int) : (dq cs a).length = cs.length := by
  induction cs with
  | nil => rfl
  | cons c cs ih => simp [dq, ih]
theorem dq_ev (cs : List Int) (a z : Int) : z * ev cs z - a * ev cs a = (z - a) * ev (dq cs a) z := by
  induction cs with
  | nil => simp [ev, dq]
  | cons d ds ih =>
    simp only [ev, dq]
    generalize ev ds z = p at *
    generalize ev ds a = q at *
    generalize ev (dq ds a) z = r at *
    grind
theorem ev_sub (c : Int) (cs : List Int) (a z : Int) : ev (c :: cs) z = ev (c :: cs) a + (z - a) * ev (dq cs a) z := by
  rw [← dq_ev]; simp only [ev]; omega
/-- A number that divides a product divides one of the two. -/
def Prm (p : Int) : Prop := ∀ a b : Int, p ∣ a * b → p ∣ a ∨ p ∣ b
theorem roots {p : Int} (hp : Prm p) : ∀ (xs : List Int) (cs : List Int), cs.length ≤ xs.length → xs.Pairwise (fun x y => ¬ p ∣ x - y) → (∀ x ∈ xs, p ∣ ev cs x) → ∀ z, p ∣ ev cs z := by
  intro xs
  induction xs with
  | nil => intro cs h _ _ z; have : cs = [] := List.length_eq_zero_iff.1 (by simpa using h)
           subst this; simp [ev]
  | cons x xs ih =>
    intro cs h hd hr z
    cases cs with
    | nil => simp [ev]
    | cons c cs =>
      rw [List.pairwise_cons] at hd
      have hx := hr x (List.mem_cons_self ..)
      have hq : ∀ z, p ∣ ev (dq cs x) z := ih (dq cs x) (by rw [dq_len]; simpa using h) hd.2 (fun y hy => by
        have h1 := hr y (List.mem_cons_of_mem _ hy)
        rw [ev_sub c cs x y] at h1
        have h2 : p ∣ (y - x) * ev (dq cs x) y := (Int.dvd_add_right hx).1 h1
        rcases hp _ _ h2 with h3 | h3
        · exact absurd (by have := Int.dvd_neg.2 h3; rwa [Int.neg_sub] at this) (hd.1 y hy)
        · exact h3)
      rw [ev_sub c cs x z]
      exact Int.dvd_add hx (Int.dvd_mul_of_dvd_right (hq z))
/-- A polynomial with at most n coefficients. -/
def Poly (n : Nat) (g : Int → Int) : Prop := ∃ cs : List Int, cs.length ≤ n ∧ ∀ z, g z = ev cs z
theorem Poly.ofL {n : Nat} {cs : List Int} (h : cs.length ≤ n) : Poly n (ev cs) := ⟨cs, h, fun _ => rfl⟩
theorem Poly.zero (n : Nat) : Poly n (fun _ => 0) := ⟨[], Nat.zero_le _, fun _ => rfl⟩
theorem Poly.const (n : Nat) (hn : 1 ≤ n) (c : Int) : Poly n (fun _ => c) := ⟨[c], by simpa using hn, fun _ => by simp [ev]⟩
def addP : List Int → List Int → List Int
  | [], b => b
  | a :: as1, [] => a :: as1
  | a :: as1, b :: bs => (a + b) :: addP as1 bs
theorem addP_len (a b : List Int) (n : Nat) (ha : a.length ≤ n) (hb : b.length ≤ n) : (addP a b).length ≤ n := by
  induction a generalizing b n with
  | nil => simpa [addP] using hb
  | cons x xs ih => cases b with
    | nil => simpa [addP] using ha
    | cons y ys =>
      cases n with
      | zero => simp at ha
      | succ n => simp only [addP, List.length_cons]; have := ih ys n (by simpa using ha) (by simpa using hb); omega
theorem addP_ev (a b : List Int) (z : Int) : ev (addP a b) z = ev a z + ev b z := by
  induction a generalizing b with
  | nil => simp [addP, ev]
  | cons x xs ih => cases b with
    | nil => simp [addP, ev]
    | cons y ys => simp only [addP, ev, ih]; grind
theorem Poly.add {n : Nat} {f g : Int → Int} (hf : Poly n f) (hg : Poly n g) : Poly n (fun z => f z + g z) := by
  obtain ⟨a, ha, ea⟩ := hf
  obtain ⟨b, hb, eb⟩ := hg
  exact ⟨addP a b, addP_len a b n ha hb, fun z => by simp only [addP_ev, ea, eb]⟩
theorem ev_map (k : Int) (a : List Int) (z : Int) : ev (a.map (k * ·)) z = k * ev a z := by
  induction a with
  | nil => simp [ev]
  | cons x xs ih => simp only [List.map_cons, ev, ih]; grind
theorem Poly.smul {n : Nat} {f : Int → Int} (k : Int) (hf : Poly n f) : Poly n (fun z => k * f z) := by
  obtain ⟨a, ha, ea⟩ := hf
  exact ⟨a.map (k * ·), by simpa using ha, fun z => by simp only [ev_map, ea]⟩
theorem Poly.lin {n : Nat} {f : Int → Int} (x : Int) (hf : Poly n f) : Poly (n + 1) (fun z => (x - z) * f z) := by
  obtain ⟨a, ha, ea⟩ := hf
  refine ⟨addP (a.map (x * ·)) (0 :: a.map (-1 * ·)), addP_len _ _ _ (by simp; omega) (by simpa using ha), fun z => ?_⟩
  simp only [addP_ev, ev_map, ea, ev]; grind
def pr : List Int → Int → Int
  | [], _ => 1
  | x :: xs, z => (x - z) * pr xs z
theorem pr_poly (xs : List Int) : Poly (xs.length + 1) (pr xs) := by
  induction xs with
  | nil => exact Poly.const 1 (Nat.le_refl _) 1
  | cons x xs ih => exact Poly.lin x ih
theorem pr_zero {xs : List Int} {z : Int} (h : z ∈ xs) : pr xs z = 0 := by
  induction xs with
  | nil => simp at h
  | cons x xs ih =>
    rcases List.mem_cons.1 h with rfl | h
    · simp [pr]
    · simp [pr, ih h]
def sm (g : Int → Int) : List Int → Int
  | [] => 0
  | x :: xs => g x + sm g xs
theorem sm_poly {n : Nat} (g : Int → Int → Int) (xs : List Int) (h : ∀ x ∈ xs, Poly n (g x)) : Poly n (fun z => sm (fun x => g x z) xs) := by
  induction xs with
  | nil => exact Poly.zero n
  | cons x xs ih => exact Poly.add (h x (List.mem_cons_self ..)) (ih fun y hy => h y (List.mem_cons_of_mem _ hy))
theorem sm_nil (g : Int → Int) (xs : List Int) (h : ∀ x ∈ xs, g x = 0) : sm g xs = 0 := by
  induction xs with
  | nil => rfl
  | cons x xs ih => simp only [sm]; rw [h x (List.mem_cons_self ..), ih fun y hy => h y (List.mem_cons_of_mem _ hy)]; rfl
theorem sm_one (g : Int → Int) (xs : List Int) (j : Int) (hj : j ∈ xs) (hn : xs.Pairwise (· ≠ ·)) (h : ∀ x ∈ xs, x ≠ j → g x = 0) : sm g xs = g j := by
  induction xs with
  | nil => simp at hj
  | cons x xs ih =>
    rw [List.pairwise_cons] at hn
    simp only [sm]
    rcases List.mem_cons.1 hj with e | hj'
    · subst e
      rw [sm_nil g xs fun y hy => h y (List.mem_cons_of_mem _ hy) (fun e => hn.1 y hy e.symm)]; omega
    · rw [h x (List.mem_cons_self ..) (hn.1 j hj'), ih hj' hn.2 fun y hy => h y (List.mem_cons_of_mem _ hy)]; omega
theorem filter_lt (xs : List Int) (x : Int) (h : x ∈ xs) : (xs.filter (· != x)).length + 1 ≤ xs.length := by
  have : (xs.filter (· != x)).length < xs.length := by
    apply Nat.lt_of_le_of_ne (List.length_filter_le _ _)
    intro e
    have := (List.filter_eq_self.1 (List.Sublist.eq_of_length List.filter_sublist e)) x h
    simp at this
  omega
theorem lagrange {p : Int} (hp : Prm p) (xs : List Int) (hd : xs.Pairwise (fun x y => ¬ p ∣ x - y)) (cs : List Int) (hc : cs.length ≤ xs.length) (V : Int → Int) (hV : ∀ x ∈ xs, p ∣ V x * pr (xs.filter (· != x)) x - 1) :
    p ∣ sm (fun x => ev cs x * V x * pr (xs.filter (· != x)) 0) xs - ev cs 0 := by
  have hn : xs.Pairwise (· ≠ ·) := hd.imp fun {a b} h e => h (by subst e; rw [Int.sub_self]; exact Int.dvd_zero p)
  have hP : Poly xs.length (fun z => sm (fun x => ev cs x * V x * pr (xs.filter (· != x)) z) xs + (-1) * ev cs z) := by
    refine Poly.add (sm_poly (fun x z => ev cs x * V x * pr (xs.filter (· != x)) z) xs fun x hx => ?_) (Poly.smul (-1) (Poly.ofL hc))
    obtain ⟨l, hl, he⟩ := pr_poly (xs.filter (· != x))
    exact Poly.smul _ ⟨l, Nat.le_trans hl (filter_lt xs x hx), he⟩
  obtain ⟨l, hl, he⟩ := hP
  have hz := roots hp xs l hl hd (fun j hj => by
    rw [← he]
    simp only []
    rw [sm_one _ xs j hj hn (fun x hx hxj => by rw [pr_zero (List.mem_filter.2 ⟨hj, by simpa using Ne.symm hxj⟩)]; omega)]
    obtain ⟨q, hq⟩ := hV j hj
    refine ⟨ev cs j * q, ?_⟩
    generalize ev cs j = a at *
    generalize V j = b at *
    generalize pr (xs.filter (· != j)) j = c at *
    grind) 0
  rw [← he] at hz
  have e : ∀ a b : Int, a + -1 * b = a - b := fun a b => by omega
  simpa only [e] using hz
/- Fermat -/
def row : Nat → List Int
  | 0 => [1]
  | n + 1 => addP (row n) (0 :: row n)
theorem row_ev (n : Nat) (x : Int) : ev (row n) x = (1 + x) ^ n := by
  induction n with
  | zero => simp [row, ev]
  | succ n ih => simp only [row, addP_ev, ev, ih, Int.pow_succ]; grind
theorem row_len (n : Nat) : (row n).length = n + 1 := by
  have gen : ∀ l : List Int, (addP l (0 :: l)).length = l.length + 1 := by
    have g2 : ∀ (l : List Int) (c : Int), (addP l (c :: l)).length = l.length + 1 := by
      intro l; induction l with
      | nil => intro c; rfl
      | cons x xs ih => intro c; simp only [addP, List.length_cons, ih]
    exact fun l => g2 l 0
  induction n with
  | zero => rfl
  | succ n ih => simp only [row, gen, ih]
theorem addP_get (a b : List Int) (k : Nat) : (addP a b).getD k 0 = a.getD k 0 + b.getD k 0 := by
  induction a generalizing b k with
  | nil => simp [addP]
  | cons x xs ih => cases b with
    | nil => simp [addP]
    | cons y ys => cases k with
      | zero => simp [addP]
      | succ k => simpa [addP] using ih ys k
def co (n k : Nat) : Int := (row n).getD k 0
theorem co_zero (n : Nat) : co n 0 = 1 := by
  unfold co
  induction n with
  | zero => rfl
  | succ n ih => simp only [row, addP_get, ih]; rfl
theorem co_succ (n k : Nat) : co (n + 1) (k + 1) = co n (k + 1) + co n k := by
  unfold co
  simp only [row, addP_get]; simp
theorem co_none (k : Nat) : co 0 (k + 1) = 0 := rfl
theorem co_abs (n k : Nat) : ((k : Int) + 1) * co (n + 1) (k + 1) = ((n : Int) + 1) * co n k := by
  induction n generalizing k with
  | zero =>
    rw [co_succ, co_none]
    cases k with
    | zero => simp [co_zero]
    | succ k => rw [co_none]; simp
  | succ n ih =>
    rw [co_succ (n + 1) k]
    cases k with
    | zero => have := ih 0; simp only [co_zero] at *; push_cast at *; omega
    | succ j =>
      have h1 := ih (j + 1)
      have h2 := ih j
      have h3 := co_succ n j
      push_cast at *
      generalize co (n + 1) (j + 1 + 1) = a at *
      generalize co (n + 1) (j + 1) = b at *
      generalize co n (j + 1) = c at *
      generalize co n j = d at *
      grind
theorem ev_last {p : Int} (x : Int) (m : Nat) : ∀ l : List Int, (∀ k, k < m → p ∣ l.getD k 0) → l.length ≤ m + 1 → p ∣ ev l x - l.getD m 0 * x ^ m := by
  induction m with
  | zero =>
    intro l _ h
    match l, h with
    | [], _ => simp [ev]
    | [c], _ => simp [ev]
    | _ :: _ :: _, h => simp at h
  | succ m ih =>
    intro l hd h
    match l, h with
    | [], _ => simp [ev]
    | c :: cs, h =>
      obtain ⟨q, hq⟩ := ih cs (fun k hk => by simpa using hd (k + 1) (by omega)) (by simpa using h)
      obtain ⟨r, hr⟩ : p ∣ c := by simpa using hd 0 (by omega)
      refine ⟨r + x * q, ?_⟩
      simp only [ev, List.getD_cons_succ, Int.pow_succ]
      generalize ev cs x = a at *
      generalize cs.getD m 0 = b at *
      generalize x ^ m = y at *
      grind
theorem co_last (n : Nat) : co n n = 1 := by
  have hz : ∀ n k, n < k → co n k = 0 := by
    intro n k h
    unfold co
    rw [List.getD_eq_getElem?_getD, List.getElem?_eq_none (by rw [row_len]; omega)]; rfl
  induction n with
  | zero => rfl
  | succ n ih => rw [co_succ, ih, hz n (n + 1) (by omega)]; rfl
theorem frob {n : Nat} (hp : Prm ((n : Int) + 1)) (x : Int) : ((n : Int) + 1) ∣ (1 + x) ^ (n + 1) - (1 + x ^ (n + 1)) := by
  have hd : ∀ k, k < n → ((n : Int) + 1) ∣ co (n + 1) (k + 1) := fun k hk => by
    have h := co_abs n k
    rcases hp ((k : Int) + 1) (co (n + 1) (k + 1)) ⟨_, h⟩ with h1 | h1
    · have := Int.le_of_dvd (by omega) h1; omega
    · exact h1
  rw [← row_ev]
  have hl := row_len (n + 1)
  have h0 : co (n + 1) 0 = 1 := co_zero _
  have hL : co (n + 1) (n + 1) = 1 := co_last _
  unfold co at hd h0 hL
  generalize row (n + 1) = r at *
  match r, hl with
  | c :: cs, hl =>
    have := ev_last (p := (n : Int) + 1) x n cs (fun k hk => by simpa using hd k hk) (by simpa using Nat.le_of_eq hl)
    simp only [List.getD_cons_zero, List.getD_cons_succ] at h0 hL
    obtain ⟨q, hq⟩ := this
    refine ⟨x * q, ?_⟩
    simp only [ev, Int.pow_succ, h0]
    rw [hL] at hq
    generalize ev cs x = a at *
    generalize x ^ n = y at *
    grind
theorem fermat {n : Nat} (hp : Prm ((n : Int) + 1)) (x : Nat) : ((n : Int) + 1) ∣ (x : Int) ^ (n + 1) - x := by
  induction x with
  | zero => simp [Int.pow_succ]
  | succ x ih =>
    have := frob hp x
    have h2 := Int.dvd_add this ih
    have e : (1 + (x : Int)) ^ (n + 1) - (1 + (x : Int) ^ (n + 1)) + ((x : Int) ^ (n + 1) - x) = ((x + 1 : Nat) : Int) ^ (n + 1) - ((x + 1 : Nat) : Int) := by
      have : ((x + 1 : Nat) : Int) = 1 + (x : Int) := by push_cast; omega
      rw [this]; omega
    rwa [e] at h2
theorem fermat1 {n : Nat} (hp : Prm ((n : Int) + 1)) (x : Nat) (hx : ¬ ((n : Int) + 1) ∣ (x : Int)) : ((n : Int) + 1) ∣ (x : Int) ^ n - 1 := by
  have h := fermat hp x
  rw [Int.pow_succ] at h
  have : (x : Int) ^ n * x - x = ((x : Int) ^ n - 1) * x := by grind
  rw [this] at h
  exact (hp _ _ h).resolve_right hx
theorem ord_prm : Prm 1073741789 := by
  intro a b h
  by_cases ha : (1073741789 : Int) ∣ a
  · exact .inl ha
  · right
    have h1 : (1073741789 : Nat) ∣ a.natAbs * b.natAbs := by
      have := Int.natAbs_dvd_natAbs.2 h
      rwa [Int.natAbs_mul] at this
    have h2 : a.natAbs % 1073741789 ≠ 0 := fun e => ha (Int.ofNat_dvd_left.2 (Nat.dvd_of_mod_eq_zero e))
    have h3 : Nat.gcd 1073741789 a.natAbs = 1 := by
      rw [Nat.gcd_rec]; exact ord_coprime _ (Nat.pos_of_ne_zero h2) (Nat.mod_lt _ (by decide))
    exact Int.ofNat_dvd_left.2 (Nat.Coprime.dvd_of_dvd_mul_left h3 h1)
def pwr (m : Nat) : Nat → Nat → Nat → Nat → Nat
  | 0, out, _, _ => out
  | k + 1, out, b, e => if e % 2 = 1 then pwr m k (out * b % m) (b * b % m) (e / 2) else pwr m k out (b * b % m) (e / 2)
theorem pwr_eq (m k : Nat) : ∀ out b e, e < 2 ^ k → out % m = out → pwr m k out b e = (out * b ^ e) % m := by
  induction k with
  | zero => intro out b e h ho; obtain rfl : e = 0 := by simpa using h
            simp [pwr, ho]
  | succ k ih =>
    intro out b e h ho
    rw [Nat.pow_succ] at h
    simp only [pwr]
    split
    · rename_i h1
      rw [ih _ _ _ (by omega) (Nat.mod_mod _ _), powOdd _ _ _ _ h1]
    · rw [ih _ _ _ (by omega) ho, powEven _ _ _ _ (by omega)]
/-- The order, under a name. -/
def OrdIs (E : Nat) : Prop := E = 1073741789
theorem base_ord {E : Nat} (hE : OrdIs E) : 4 ^ E % 2147483579 = 1 := by
  have hE' : E = 1073741789 := hE
  have := pwr_eq 2147483579 30 1 4 E (by omega) (by decide)
  rw [Nat.one_mul] at this
  rw [← this, hE']
  decide +kernel
/-- The exponents that give 1. -/
def One4 (n : Nat) : Prop := 4 ^ n % 2147483579 = 1
theorem one4_mod {m n : Nat} (hm : One4 m) : One4 n ↔ One4 (n % m) := by
  unfold One4 at *
  have e : 4 ^ n % 2147483579 = 4 ^ (n % m) % 2147483579 := by
    conv => lhs; rw [← Nat.div_add_mod n m, Nat.pow_add, Nat.pow_mul, Nat.mul_mod, Nat.pow_mod, hm, Nat.one_pow]
    simp
  rw [e]
theorem one4_gcd (m n : Nat) : One4 m → One4 n → One4 (Nat.gcd m n) := by
  induction m, n using Nat.gcd.induction with
  | H0 n => intro _ h; rwa [Nat.gcd_zero_left]
  | H1 m n _ ih => intro hm hn; rw [Nat.gcd_rec]; exact ih ((one4_mod hm).1 hn) hm
theorem one4_dvd {E n : Nat} (hE : OrdIs E) (h : One4 n) : n % E = 0 := by
  apply Classical.byContradiction
  intro hn
  have h1 := (one4_mod (base_ord hE)).1 h
  have h2 := one4_gcd _ _ h1 (base_ord hE)
  have hE' : E = 1073741789 := hE
  have h3 : Nat.gcd (n % E) E = 1 := by
    generalize hr : n % E = r at *
    have hl : r < E := by rw [← hr]; exact Nat.mod_lt _ (by omega)
    rw [hE'] at hl ⊢
    exact ord_coprime r (Nat.pos_of_ne_zero hn) hl
  rw [h3] at h2
  exact absurd h2 (by unfold One4; decide)
theorem base_modE {E : Nat} (hE : OrdIs E) (n : Nat) : 4 ^ n % 2147483579 = 4 ^ (n % E) % 2147483579 := by
  conv => lhs; rw [← Nat.div_add_mod n E, Nat.pow_add, Nat.pow_mul, Nat.mul_mod, Nat.pow_mod, base_ord hE, Nat.one_pow]
  simp
theorem base_injE {E a b : Nat} (hE : OrdIs E) (h : 4 ^ a % 2147483579 = 4 ^ b % 2147483579) : a % E = b % E := by
  have hE' : 0 < E := by have : E = 1073741789 := hE; omega
  have key : ∀ a b : Nat, a ≤ b → 4 ^ a % 2147483579 = 4 ^ b % 2147483579 → a % E = b % E := by
    intro a b hab h
    have e : One4 (b - a) := by
      have h1 : 4 ^ (a * (E - 1) + a) % 2147483579 = 4 ^ (a * (E - 1) + b) % 2147483579 := by
        rw [Nat.pow_add, Nat.pow_add, Nat.mul_mod, h, ← Nat.mul_mod]
      have h2 : a * (E - 1) + a = E * a := by
        obtain ⟨F, rfl⟩ : ∃ F, E = F + 1 := ⟨E - 1, by omega⟩
        rw [Nat.add_sub_cancel]; grind
      have h3 : a * (E - 1) + b = E * a + (b - a) := by omega
      rw [h2, h3, Nat.pow_add, Nat.pow_mul, Nat.mul_mod, Nat.pow_mod, base_ord hE, Nat.one_pow] at h1
      unfold One4
      rw [← (by simpa using h1 : 1 = 4 ^ (b - a) % 2147483579)]
    have hd := one4_dvd hE e
    have hb : b = a + (b - a) := by omega
    rw [hb, Nat.add_mod, hd, Nat.add_zero, Nat.mod_mod]
  rcases Nat.le_total a b with hl | hl
  · exact key a b hl h
  · exact (key b a hl h.symm).symm
theorem base_posE {E : Nat} (hE : OrdIs E) (n : Nat) : 4 ^ n % 2147483579 ≠ 0 := by
  intro h
  have hE' : 0 < E := by have : E = 1073741789 := hE; omega
  have h1 : 4 ^ (n * (E - 1) + n) % 2147483579 = 0 := by rw [Nat.pow_add, Nat.mul_mod, h]; simp
  have h2 : n * (E - 1) + n = E * n := by
    obtain ⟨F, rfl⟩ : ∃ F, E = F + 1 := ⟨E - 1, by omega⟩
    rw [Nat.add_sub_cancel]; grind
  rw [h2, Nat.pow_mul, Nat.pow_mod, base_ord hE, Nat.one_pow] at h1
  simp at h1
theorem base_pos (n : Nat) : 4 ^ n % 2147483579 ≠ 0 := base_posE (E := 1073741789) rfl n
theorem base_mod (n : Nat) : 4 ^ n % 2147483579 = 4 ^ (n % 1073741789) % 2147483579 := base_modE (E := 1073741789) rfl n
theorem base_inj {a b : Nat} (h : 4 ^ a % 2147483579 = 4 ^ b % 2147483579) : a % 1073741789 = b % 1073741789 := base_injE (E := 1073741789) rfl h
end Go.Proofs.YtdflnjjomljgmaaGreatDoor.D
