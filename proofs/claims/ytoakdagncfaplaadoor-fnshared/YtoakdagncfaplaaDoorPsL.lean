/- Shares of a polynomial, joined, give what it is at 0. Pure. -/
import Derived.Test.YtoakdagncfaplaaDoorDJoI
import Derived.Test.YtoakdagncfaplaaDoorPsP
namespace Go.Proofs.YtoakdagncfaplaaDoor.D

def Cg (p a b : Int) : Prop := p ∣ a - b
theorem Cg.refl (p a : Int) : Cg p a a := by unfold Cg; rw [Int.sub_self]; exact Int.dvd_zero p
theorem Cg.symm {p a b : Int} (h : Cg p a b) : Cg p b a := by
  unfold Cg at *
  obtain ⟨k, h⟩ := h
  exact ⟨-k, by rw [Int.mul_neg, ← h]; omega⟩
theorem Cg.trans {p a b c : Int} (h : Cg p a b) (k : Cg p b c) : Cg p a c := by
  unfold Cg at *
  have := Int.dvd_add h k
  rwa [show a - b + (b - c) = a - c by omega] at this
theorem Cg.add {p a b c d : Int} (h : Cg p a b) (k : Cg p c d) : Cg p (a + c) (b + d) := by
  unfold Cg at *
  have := Int.dvd_add h k
  rwa [show a - b + (c - d) = a + c - (b + d) by omega] at this
theorem Cg.mul {p a b c d : Int} (h : Cg p a b) (k : Cg p c d) : Cg p (a * c) (b * d) := by
  unfold Cg at *
  obtain ⟨x, hx⟩ := h
  obtain ⟨y, hy⟩ := k
  exact ⟨x * c + b * y, by grind⟩
theorem Cg.mod (p a : Int) : Cg p (a % p) a := by
  unfold Cg
  exact ⟨-(a / p), by have := Int.mul_ediv_add_emod a p; grind⟩
theorem cg_nat (P a : Nat) : Cg P ((a % P : Nat) : Int) a := by
  have := Cg.mod (P : Int) (a : Int)
  rwa [← Int.natCast_emod] at this
theorem Cg.pow {p a b : Int} (h : Cg p a b) : ∀ n : Nat, Cg p (a ^ n) (b ^ n)
  | 0 => by simp only [Int.pow_zero]; exact Cg.refl _ _
  | n + 1 => by rw [Int.pow_succ, Int.pow_succ]; exact (Cg.pow h n).mul h
theorem pev_ev (x : Int) : ∀ l, pev x l = ev l x
  | [] => rfl
  | c :: l => by simp only [pev, ev, pev_ev x l]
abbrev fs (l : List (Nat × Nat)) : List Int := l.map fun s => (s.1 : Int)

theorem sk_cg (P x : Nat) : ∀ (l : List (Nat × Nat)) (i : Nat), Cg P (sk P x l i) ((i : Int) * pr ((fs l).filter (· != (x : Int))) 0)
  | [], i => by simp only [sk, List.foldl_nil, fs, List.map_nil, List.filter_nil, pr, Int.mul_one]; exact Cg.refl _ _
  | s :: l, i => by
    rw [sk_cons]
    by_cases h : s.1 = x
    · rw [if_pos h]
      have e : (fs (s :: l)).filter (· != (x : Int)) = (fs l).filter (· != (x : Int)) := by simp [fs, h]
      rw [e]; exact sk_cg P x l i
    · rw [if_neg h]
      have h' : ¬ (s.1 : Int) = (x : Int) := by omega
      have e : (fs (s :: l)).filter (· != (x : Int)) = (s.1 : Int) :: (fs l).filter (· != (x : Int)) := by simp [fs, h']
      rw [e]
      refine (sk_cg P x l _).trans ?_
      have a := (cg_nat P (i * s.1)).mul (Cg.refl P (pr ((fs l).filter (· != (x : Int))) 0))
      refine a.trans ?_
      simp only [pr, Int.sub_zero, Int.natCast_mul, Int.mul_assoc]
      exact Cg.refl _ _
theorem bl_cg (P x : Nat) (hx : x ≤ P) : ∀ (l : List (Nat × Nat)) (i : Nat), Cg P (bl P x l i) ((i : Int) * pr ((fs l).filter (· != (x : Int))) x)
  | [], i => by simp only [bl, List.foldl_nil, fs, List.map_nil, List.filter_nil, pr, Int.mul_one]; exact Cg.refl _ _
  | s :: l, i => by
    rw [bl_cons]
    by_cases h : s.1 = x
    · rw [if_pos h]
      have e : (fs (s :: l)).filter (· != (x : Int)) = (fs l).filter (· != (x : Int)) := by simp [fs, h]
      rw [e]; exact bl_cg P x hx l i
    · rw [if_neg h]
      have h' : ¬ (s.1 : Int) = (x : Int) := by omega
      have e : (fs (s :: l)).filter (· != (x : Int)) = (s.1 : Int) :: (fs l).filter (· != (x : Int)) := by simp [fs, h']
      rw [e]
      refine (bl_cg P x hx l _).trans ?_
      have d : Cg P (((P + s.1 - x : Nat) : Int)) ((s.1 : Int) - x) := ⟨1, by omega⟩
      have m : Cg P ((i * (P + s.1 - x) % P : Nat) : Int) ((i : Int) * ((s.1 : Int) - x)) := (cg_nat P _).trans (by rw [Int.natCast_mul]; exact (Cg.refl _ _).mul d)
      refine (m.mul (Cg.refl P (pr ((fs l).filter (· != (x : Int))) x))).trans ?_
      simp only [pr, Int.mul_assoc]
      exact Cg.refl _ _
theorem pr_no {p : Int} (hp : Prm p) (h1 : ¬ p ∣ 1) (z : Int) : ∀ xs : List Int, (∀ x ∈ xs, ¬ p ∣ x - z) → ¬ p ∣ pr xs z
  | [], _ => h1
  | x :: xs, h => fun hd => by
    rcases hp _ _ hd with h2 | h2
    · exact h x (by simp) h2
    · exact pr_no hp h1 z xs (fun y hy => h y (by simp [hy])) h2
theorem join_cg (P E : Nat) (l : List (Nat × Nat)) (G : Int → Int) : ∀ (m : List (Nat × Nat)) (i : Nat), (∀ s ∈ m, Cg P ((s.2 : Int) * wt P E l s.1) (G s.1)) → Cg P (joinI P E l m i) ((i : Int) + sm G (fs m))
  | [], i, _ => by simp only [joinI, List.foldl_nil, fs, List.map_nil, sm, Int.add_zero]; exact Cg.refl _ _
  | s :: m, i, h => by
    rw [joinI_cons]
    refine (join_cg P E l G m _ (fun t ht => h t (by simp [ht]))).trans ?_
    have a : Cg P ((((i + s.2 * wt P E l s.1) % P : Nat) : Int)) ((i : Int) + G s.1) := (cg_nat P _).trans (by rw [Int.natCast_add, Int.natCast_mul]; exact (Cg.refl _ _).add (h s (by simp)))
    refine (a.add (Cg.refl P (sm G (fs m)))).trans ?_
    simp only [fs, List.map_cons, sm, Int.add_assoc]
    exact Cg.refl _ _
/-- Lagrange, as it is reckoned. -/
theorem join_ev {n : Nat} (hp : Prm ((n + 1 : Nat) : Int)) (h1 : ¬ ((n + 1 : Nat) : Int) ∣ 1) (hn : 1 ≤ n) (l : List (Nat × Nat)) (cs : List Int) (hc : cs.length ≤ l.length) (hx : ∀ s ∈ l, s.1 ≤ n + 1) (hy : ∀ s ∈ l, Cg ((n + 1 : Nat) : Int) s.2 (ev cs s.1))
    (hd : (fs l).Pairwise (fun x y => ¬ ((n + 1 : Nat) : Int) ∣ x - y)) : Cg ((n + 1 : Nat) : Int) (joinI (n + 1) (n - 1) l l 0) (ev cs 0) := by
  have hV : ∀ x ∈ fs l, ((n + 1 : Nat) : Int) ∣ ((pw (bl (n + 1) x.toNat l 1) (n - 1) (n + 1) : Nat) : Int) * pr ((fs l).filter (· != x)) x - 1 := by
    intro x hxm
    obtain ⟨s, hs, rfl⟩ := List.mem_map.1 hxm
    rw [Int.toNat_natCast]
    have hb := bl_cg (n + 1) s.1 (hx s hs) l 1
    rw [Int.natCast_one, Int.one_mul] at hb
    have hne : ¬ ((n + 1 : Nat) : Int) ∣ ((bl (n + 1) s.1 l 1 : Nat) : Int) := fun hh => by
      have h2 : ((n + 1 : Nat) : Int) ∣ pr ((fs l).filter (· != (s.1 : Int))) s.1 := by
        have := Int.dvd_sub hh hb
        rwa [show ∀ a b : Int, a - (a - b) = b from fun a b => by omega] at this
      refine pr_no hp h1 _ _ (fun y hy' => ?_) h2
      obtain ⟨hy1, hy2⟩ := List.mem_filter.1 hy'
      have hne : y ≠ (s.1 : Int) := by simpa using hy2
      obtain ⟨i, hi, ei⟩ := List.getElem_of_mem hy1
      obtain ⟨j, hj, ej⟩ := List.getElem_of_mem hxm
      have pw' := List.pairwise_iff_getElem.1 hd
      rcases Nat.lt_trichotomy i j with hij | hij | hij
      · have := pw' i j hi hj hij
        rwa [ei, ej] at this
      · subst hij; exact absurd (ei.symm.trans ej) hne
      · have := pw' j i hj hi hij
        rw [ei, ej] at this
        exact fun hh => this (by have := Int.dvd_neg.2 hh; rwa [show -(y - (s.1 : Int)) = (s.1 : Int) - y by omega] at this)
    have hf := fermat1 (n := n) (by simpa using hp) (bl (n + 1) s.1 l 1) (by simpa using hne)
    have e1 : Cg ((n + 1 : Nat) : Int) (((pw (bl (n + 1) s.1 l 1) (n - 1) (n + 1) : Nat) : Int) * pr ((fs l).filter (· != (s.1 : Int))) s.1) (((bl (n + 1) s.1 l 1 : Nat) : Int) ^ (n - 1) * ((bl (n + 1) s.1 l 1 : Nat) : Int)) := by
      refine Cg.mul ?_ hb.symm
      unfold pw
      have := cg_nat (n + 1) (bl (n + 1) s.1 l 1 ^ (n - 1))
      rwa [Int.natCast_pow] at this
    refine e1.trans ?_
    rw [← Int.pow_succ, show (n - 1).succ = n by omega]
    have : (((n : Nat) : Int) + 1) = ((n + 1 : Nat) : Int) := by omega
    rw [this] at hf
    exact hf
  have L := lagrange hp (fs l) hd cs (by simpa [fs] using hc) (fun x => ((pw (bl (n + 1) x.toNat l 1) (n - 1) (n + 1) : Nat) : Int)) hV
  refine (join_cg (n + 1) (n - 1) l (fun x => ev cs x * ((pw (bl (n + 1) x.toNat l 1) (n - 1) (n + 1) : Nat) : Int) * pr ((fs l).filter (· != x)) 0) l 0 (fun s hs => ?_)).trans ?_
  · simp only [Int.toNat_natCast]
    have w1 : Cg ((n + 1 : Nat) : Int) ((wt (n + 1) (n - 1) l s.1 : Nat) : Int) (pr ((fs l).filter (· != (s.1 : Int))) 0 * ((pw (bl (n + 1) s.1 l 1) (n - 1) (n + 1) : Nat) : Int)) := by
      rw [wt_eq]
      refine (cg_nat _ _).trans ?_
      rw [Int.natCast_mul]
      have := sk_cg (n + 1) s.1 l 1
      rw [Int.natCast_one, Int.one_mul] at this
      exact this.mul (Cg.refl _ _)
    refine ((hy s hs).mul w1).trans ?_
    rw [Int.mul_assoc, Int.mul_comm (pr _ 0)]
    exact Cg.refl _ _
  · rw [Int.natCast_zero, Int.zero_add]
    exact L
theorem prm_no : ¬ ((1073741789 : Nat) : Int) ∣ 1 := by
  intro h
  have := Int.le_of_dvd (by decide) h
  omega
theorem join_secret (s : Int) (hs : 0 ≤ s ∧ s < 1073741789) (l : List UInt8) (k : Nat) (L : List (Int × Int)) (h1 : k + 1 ≤ L.length) (hL : ∀ q ∈ L, 1 ≤ q.1 ∧ q.1 ≤ 20 ∧ q.2 = pev q.1 (cof s l k) % 1073741789) (hd : L.Pairwise (fun a b => a.1 ≠ b.1)) :
    ((joinI 1073741789 1073741787 (nats L) (nats L) 0 : Nat) : Int) = s := by
  have hfs : fs (nats L) = L.map (·.1) := by
    simp only [fs, nats, List.map_map]
    apply List.map_congr_left
    intro q hq
    have := hL q hq
    simp only [Function.comp]
    omega
  have key := join_ev (n := 1073741788) (by have := ord_prm; simpa using this) (by simp) (by omega) (nats L) (cof s l k) (by rw [cof_len, nats_len]; exact h1)
    (fun q hq => by
      obtain ⟨p, hp, rfl⟩ := List.mem_map.1 hq
      have := hL p hp
      simp only []
      omega)
    (fun q hq => by
      obtain ⟨p, hp, rfl⟩ := List.mem_map.1 hq
      obtain ⟨a1, a2, a3⟩ := hL p hp
      simp only []
      have e1 : ((p.1.toNat : Nat) : Int) = p.1 := by omega
      have n0 : 0 ≤ p.2 := by rw [a3]; exact Int.emod_nonneg _ (by decide)
      have e2 : ((p.2.toNat : Nat) : Int) = p.2 := by omega
      rw [e1, e2, a3, pev_ev]
      exact Cg.mod _ _)
    (by
      rw [hfs]
      refine List.pairwise_map.2 ?_
      refine List.Pairwise.imp_of_mem (fun {a b} ha hb hab => ?_) hd
      have h2 := hL a ha
      have h3 := hL b hb
      intro hh
      obtain ⟨q, hq⟩ := hh
      have hq' : a.1 - b.1 = 1073741789 * q := by simpa using hq
      omega)
  simp only [Nat.reduceAdd, Nat.reduceSub] at key
  have hlt := joinI_lt 1073741789 1073741787 (by omega) (nats L) (nats L) 0 (by omega)
  have e0 : ev (cof s l k) 0 = s := by simp [cof, ev]
  rw [e0] at key
  generalize joinI 1073741789 1073741787 (nats L) (nats L) 0 = J at *
  obtain ⟨q, hq⟩ := key
  have hq' : (J : Int) - s = 1073741789 * q := by simpa using hq
  omega
end Go.Proofs.YtoakdagncfaplaaDoor.D
