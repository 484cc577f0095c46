/- Ways: the least of the shortest; spec.l5Within, l5Way, WayOf. -/
import Derived.Test.YtakjnbdjjeccoaaGRcS
namespace Go.Proofs.Ytakjnbdjjeccoaa
open Go.RowKit

/-- The least node next to g that is k steps from m. -/
def Lst (E : Bs → Bs → Prop) (g m : Bs) (k : Nat) (c : Bs) : Prop := (E g c ∧ Dist E c m k) ∧ ∀ c', E g c' → Dist E c' m k → ¬ cmpB c' c < 0
theorem Lst.uniq {E : Bs → Bs → Prop} {g m : Bs} {k : Nat} {c d : Bs} (h : Lst E g m k c) (q : Lst E g m k d) : c = d := by
  rcases cmpB_tri c d with x | x | x
  · exact absurd x (q.2 c h.1.1 h.1.2)
  · exact x
  · exact absurd x (h.2 d q.1.1 q.1.2)
/-- The way of k + 1 steps. -/
def WayS (E : Bs → Bs → Prop) (m : Bs) : Nat → Bs → List Bs → Prop
  | 0, g, p => p = [g, m]
  | k + 1, g, p => ∃ c p', Lst E g m (k + 1) c ∧ WayS E m k c p' ∧ p = g :: p'
theorem WayS.uniq {E : Bs → Bs → Prop} {m : Bs} : ∀ {k : Nat} {g : Bs} {p q : List Bs}, WayS E m k g p → WayS E m k g q → p = q
  | 0, _, _, _, h1, h2 => h1.trans h2.symm
  | k + 1, g, p, q, ⟨c, p', h1, h2, h3⟩, ⟨d, q', k1, k2, k3⟩ => by
    obtain rfl := h1.uniq k1
    rw [h3, k3, WayS.uniq h2 k2]
theorem WayS.len {E : Bs → Bs → Prop} {m : Bs} : ∀ {k : Nat} {g : Bs} {p : List Bs}, WayS E m k g p → p.length = k + 2
  | 0, _, _, h => by rw [h]; rfl
  | k + 1, _, _, ⟨_, _, _, h2, h3⟩ => by rw [h3, List.length_cons, WayS.len h2]
theorem WayS.congr {E E' : Bs → Bs → Prop} (h : ∀ x y, E x y ↔ E' x y) {m : Bs} {k : Nat} {g : Bs} {p : List Bs} (q : WayS E m k g p) : WayS E' m k g p := by
  have : E = E' := by funext x y; exact propext (h x y)
  rw [← this]; exact q
/-- What WayOf tells. -/
def PWay (l : List NestT) (g m : Bs) (p : List Bs) : Prop := p.length ≤ 1000 ∧ ((∃ k, Dist (EdG l) g m (k + 1) ∧ WayS (EdG l) m k g p) ∨ (¬ Inn l g m ∧ p = []))
theorem PWay.uniq {l : List NestT} {g m : Bs} {p q : List Bs} (h : PWay l g m p) (k : PWay l g m q) : p = q := by
  rcases h.2 with ⟨a, h1, h2⟩ | ⟨h1, h2⟩ <;> rcases k.2 with ⟨b, k1, k2⟩ | ⟨k1, k2⟩
  · have e := h1.uniq k1
    obtain rfl : a = b := by omega
    exact h2.uniq k2
  · exact absurd ⟨_, h1⟩ k1
  · exact absurd ⟨_, k1⟩ h1
  · rw [h2, k2]
theorem PWay.len {l : List NestT} {g m : Bs} {p : List Bs} (h : PWay l g m p) : p.length ≤ 1000 := h.1

set_option maxRecDepth 100000 in
set_option maxHeartbeats 1000000 in
theorem l5Within_any (a : Option Addr) (len cap : Nat) (l : List NestT) (g m : Bs) (k : Nat) (w : World) (h200 : len ≤ 200) (hs : SlNest w a len l) (hk : k ≤ 1000) :
    Calls Try.prog 91 #[.slice a len cap, .string g, .string m, .int .i64 ((k : Int) + 1)] w fun e w' => RetB e (Dist (EdR l) g m (k + 1)) ∧ Below w.heap.size w w' := by
  have qr := hide (l5Rings_any a len cap l g w h200 hs)
  clear hs
  go_enter Try.func91, Try.ntmps91
  go_wp2_with fail
  refine (unhide qr).mono ?_
  rintro e w3 ⟨⟨vR, R, sl, rfl, hR, hP⟩, hb3⟩
  obtain ⟨_, aR, capR, rfl⟩ := own_slLen hR.row
  have HP := hide hP
  have hRc := hP.cnt
  have B3 := hide hb3
  clear qr hP hb3
  by_cases hlt : k < R.length
  · obtain ⟨u, hu1, hu2⟩ := hR.each k hlt
    obtain ⟨gR, cR, eR, _⟩ := own_some hR.row (by omega)
    cases eR
    have c1 : w3.cell? ⟨gR, k, none⟩ = some u := by rw [hR.row.cellAt k (by omega)]; exact hu1
    have zR : gR < w3.heap.size := (hR.row.lt gR rfl).2
    obtain ⟨au, cu, eu, hsu⟩ := own_strs hu2
    subst eu
    have hrl : (R[k]).length ≤ 1000000 := by have h1 := (unhide HP).len; have h2 := ring_len hlt; omega
    have qh := hide (l3Has_any au (R[k]).length cu R[k] m w3 hrl hsu)
    have eD := hide ((unhide HP).at_ k hlt m)
    have hle : (k : Int) + 1 ≤ (R.length : Int) := by omega
    have ej : IntKind.i64.wrap ((k : Int) + 1 - 1) = (k : Int) := by rw [IntKind.wrap_i64]; omega
    clear hsu hu1 hu2 hR
    generalize R[k] = RK at qh eD c1 hrl
    go_wp2_with fail
    refine (unhide qh).mono ?_
    rintro e w4 ⟨⟨v, rfl, hv⟩, hw4⟩
    subst hw4
    have HV := hide (hv.trans (unhide eD))
    clear hv qh eD
    go_wp2_with fail
    go_ret
    exact ⟨retB (b := v) (unhide HV), unhide B3⟩
  · have NO : Hid (¬ Dist (EdR l) g m (k + 1)) := hide (fun h => by have := (unhide HP).all m _ h; omega)
    have hd : decide ((k : Int) + 1 ≤ (R.length : Int)) = false := decide_eq_false (by omega)
    clear hR
    go_wp2_with fail
    go_ret
    exact ⟨retB (b := false) ⟨fun h => (by cases h), fun h => absurd h (unhide NO)⟩, unhide B3⟩

/-- None of the first i nests goes on. -/
def NoneW (l : List NestT) (g m : Bs) (k i : Nat) : Prop := ∀ j (h : j < l.length), j < i → l[j].f0 = g → ¬ AtStep (fun x y => EdR l y x) m k l[j].f1
theorem at_flip {E : Bs → Bs → Prop} {m c : Bs} : ∀ {k : Nat}, AtStep (fun x y => E y x) m k c ↔ (k = 0 ∧ c = m) ∨ (1 ≤ k ∧ Dist E c m k)
  | 0 => by simp [AtStep]
  | k + 1 => by
    unfold AtStep
    rw [dist_flip]
    constructor
    · exact fun h => .inr ⟨by omega, h⟩
    · rintro (⟨h, _⟩ | ⟨_, h⟩)
      · omega
      · exact h
theorem NoneW.step {l : List NestT} {g m : Bs} {k i : Nat} (h : NoneW l g m k i) (hi : i < l.length) (hn : l[i].f0 = g → ¬ AtStep (fun x y => EdR l y x) m k l[i].f1) : NoneW l g m k (i + 1) := by
  intro j hj h1
  by_cases e : j = i
  · subst e; exact hn
  · exact h j hj (by omega)
theorem NoneW.least {l : List NestT} (hG : GoodL l) {g m : Bs} {k i : Nat} (h : NoneW l g m (k + 1) i) (hi : i < l.length) (h0 : l[i].f0 = g) (h1 : Dist (EdR l) l[i].f1 m (k + 1)) : Lst (EdR l) g m (k + 1) l[i].f1 := by
  refine ⟨⟨⟨i, hi, h0, rfl⟩, h1⟩, ?_⟩
  rintro c' ⟨j, hj, e1, rfl⟩ hd hlt
  rcases Nat.lt_trichotomy j i with x | x | x
  · exact h j hj x e1 (at_flip.2 (.inr ⟨by omega, hd⟩))
  · subst x; exact cmpB_irr _ hlt
  · have hr : ∀ d (hd : i + d + 1 < l.length), cNe l[i] (l[i + d + 1]'hd) < 0 := by
      intro d
      induction d with
      | zero => intro hd; exact hG.2.2 (i + 0 + 1) hd (by omega) hd
      | succ d ih =>
        intro hd
        have a1 := ih (by omega)
        have a2 := hG.2.2 (i + (d + 1) + 1) hd (by omega) hd
        have a3 : cfN (l[i].f0, l[i].f1) ((l[i + d + 1]'(by omega)).f0, (l[i + d + 1]'(by omega)).f1) < 0 := a1
        have a4 : cfN ((l[i + d + 1]'(by omega)).f0, (l[i + d + 1]'(by omega)).f1) ((l[i + (d + 1) + 1]'hd).f0, (l[i + (d + 1) + 1]'hd).f1) < 0 := a2
        exact cfN_tr _ _ _ a3 a4
    have h2 := hr (j - i - 1) (by omega)
    have ej : i + (j - i - 1) + 1 = j := by omega
    have h3 : cNe l[i] l[j] < 0 := by
      have : l[i + (j - i - 1) + 1]'(by omega) = l[j] := by congr 1
      rw [← this]; exact h2
    have h4 := (cfN_lt (l[i].f0, l[i].f1) (l[j].f0, l[j].f1)).1 h3
    rcases h4 with h4 | ⟨_, h4⟩
    · simp only at h4
      rw [h0, e1] at h4
      exact cmpB_irr _ h4
    · exact cmpB_irr _ (cmpB_tr _ _ _ h4 hlt)
theorem NoneW.absurd {l : List NestT} {g m : Bs} {k : Nat} (h : NoneW l g m k l.length) (hd : Dist (EdR l) g m (k + 1)) : False := by
  have hd' : Dist (fun x y => EdR l y x) m g (k + 1) := dist_flip.2 hd
  obtain ⟨c, hc, i, hi, e1, e2⟩ := hd'.atStep
  exact h i hi hi e1 (by rw [e2]; exact hc)
end Go.Proofs.Ytakjnbdjjeccoaa
