/- impl.toldNests. -/
import Derived.Test.YtakjnbdjjeccoaaGSet
namespace Go.Proofs.Ytakjnbdjjeccoaa
open Go.RowKit Go.Maps

/-- A set of nests, told: nothing where they are too many. -/
def TN (S : Bs × Bs → Prop) (r : List NestT) : Prop :=
  (r = [] ∧ ∃ us : List (Bs × Bs), us.Nodup ∧ (∀ p, p ∈ us ↔ S p) ∧ 200 < us.length) ∨ (r.length ≤ 200 ∧ r.Pairwise (fun a b => cfN (a.f0, a.f1) (b.f0, b.f1) < 0) ∧ ∀ x : NestT, x ∈ r ↔ S (x.f0, x.f1))
theorem nest_inj {a b : NestT} (h : (a.f0, a.f1) = (b.f0, b.f1)) : a = b := by
  cases a; cases b; simp at h; rw [h.1, h.2]
open Classical in
theorem TN.uniq {S : Bs × Bs → Prop} {r s : List NestT} (h : TN S r) (k : TN S s) : r = s := by
  have aux : ∀ {r : List NestT}, r.length ≤ 200 → (∀ x : NestT, x ∈ r ↔ S (x.f0, x.f1)) → ∀ us : List (Bs × Bs), us.Nodup → (∀ p, p ∈ us ↔ S p) → 200 < us.length → False := fun {r} h1 h2 us h3 h4 h5 => by
    have := nodup_le us (r.map fun x => (x.f0, x.f1)) h3 (fun p hp => List.mem_map.2 ⟨⟨p.1, p.2⟩, (h2 _).2 ((h4 p).1 hp), rfl⟩)
    rw [List.length_map] at this
    omega
  rcases h with ⟨h1, us, h2, h3, h4⟩ | ⟨h1, h2, h3⟩ <;> rcases k with ⟨k1, us', k2, k3, k4⟩ | ⟨k1, k2, k3⟩
  · rw [h1, k1]
  · exact (aux k1 k3 us h2 h3 h4).elim
  · exact (aux h1 h3 us' k2 k3 k4).elim
  · exact rising_ext (fun a b : NestT => cfN (a.f0, a.f1) (b.f0, b.f1) < 0) (fun _ => cfN_irr _) (fun _ _ _ => cfN_tr _ _ _) r s h2 k2 (fun x => by rw [h3 x, k3 x])
theorem TN.len {S : Bs × Bs → Prop} {r : List NestT} (h : TN S r) : r.length ≤ 200 := by
  rcases h with ⟨h1, _⟩ | ⟨h1, _⟩
  · rw [h1]; simp
  · exact h1
theorem celsM_eq (ss : List (Bs × Bs)) : celsM ss = NestsV (ss.map fun p => (⟨p.1, p.2⟩ : NestT)) := by
  unfold celsM NestsV
  rw [List.flatMap_map]
  rfl

set_option maxRecDepth 100000 in
set_option maxHeartbeats 1000000 in
theorem toldNests_any (b n : Nat) (S : Bs × Bs → Prop) (w : World) (hK : KM Try.prog 42 encN w b n (seM S)) (hS : ∀ p, S p → okKN p) :
    Calls Try.prog 62 #[.map (some b)] w fun e w' => (∃ v r, e = .returned v ∧ TN S r ∧ w'.ownsRow w.heap.size 42 2 v r.length (NestsV r)) ∧ Below w.heap.size w w' := by
  obtain ⟨D, hown, hKD⟩ := hK
  have hblt := hown.lt
  obtain ⟨us, u1, u2, u3⟩ := size_keys hown
  have hmem : ∀ ss : List (Bs × Bs), (∀ x, x ∈ ss ↔ ∃ kl, keyOf Try.prog 42 (encN x) = some kl ∧ Maps.has D kl = true) → ∀ p, p ∈ ss ↔ S p := fun ss hss p => by
    rw [hss p]
    constructor
    · rintro ⟨kl, e1, e2⟩
      rw [(hKD p kl e1).1] at e2
      exact seM_isSome.1 e2
    · intro hp
      obtain ⟨kl, hkl⟩ := kNest.key p (hS p hp)
      exact ⟨kl, hkl, by rw [(hKD p kl hkl).1]; exact seM_isSome.2 hp⟩
  have hsz := hown.size_le
  have hl9 : ∀ ty, (Builtin.len_ #[78] ty #[.map (some b)]).run Try.prog w = .ok (.int .i64 (Maps.size D)) w := fun ty => hown.len Try.underlying78 ty
  by_cases hlen : 200 < Maps.size D
  · have FIN := hide (show TN S [] from .inl ⟨rfl, us, u2, hmem us u3, by omega⟩)
    clear hmem hKD u3 u2 u1 hown
    go_enter Try.func62, Try.ntmps62
    go_wp2_with fail
    go_ret
    exact ⟨⟨_, [], rfl, unhide FIN, World.ownsRow_nil _ _ _ _⟩, Below.refl _ _⟩
  · have dl : decide ((200 : Int) < (Maps.size D : Int)) = false := decide_eq_false (by omega)
    have qs := hide (sortedFuncM b n D w hown (by omega))
    have qk := hide (fun W => keysOfM (some b) W)
    have KS := hide (show ∀ ss, SrtM D ss → TN S (ss.map fun p => (⟨p.1, p.2⟩ : NestT)) from fun ss hss => by
      have hm := hmem ss hss.keys.2
      refine .inr ⟨?_, by rw [List.pairwise_map]; exact hss.ris, fun x => ?_⟩
      · rw [List.length_map]
        have := @nodup_le _ (fun _ _ => Classical.propDecidable _) ss us hss.keys.1 (fun p hp => (hmem us u3 p).2 ((hm p).1 hp))
        omega
      · rw [List.mem_map]
        constructor
        · rintro ⟨p, hp, rfl⟩; exact (hm p).1 hp
        · intro h; exact ⟨(x.f0, x.f1), (hm _).2 h, rfl⟩)
    have B0 := hide (bAl (Below.refl w.heap.size w) (.cells #[.map (some b)] 78))
    clear hmem hKD u3 u2 u1 hown hlen
    go_enter Try.func62, Try.ntmps62
    go_wp2_with fail
    refine (unhide qk _).mono ?_
    rintro e w2 ⟨rfl, hw2⟩
    subst hw2
    go_wp2_with fail
    refine (unhide qs).mono ?_
    rintro e w3 ⟨v, ss, rfl, hss, hrow, hb3⟩
    have FIN := hide (show TN S (ss.map fun p => (⟨p.1, p.2⟩ : NestT)) ∧ w3.ownsRow w.heap.size 42 2 v (ss.map fun p => (⟨p.1, p.2⟩ : NestT)).length (NestsV (ss.map fun p => (⟨p.1, p.2⟩ : NestT))) from ⟨unhide KS ss hss, by
      rw [List.length_map, ← celsM_eq]
      exact own_base hrow (unhide B0).size⟩)
    have B3 := hide (bTr (unhide B0) hb3)
    clear qk qs hss hrow hb3 KS B0
    go_wp2_with fail
    go_ret
    exact ⟨⟨_, _, rfl, unhide FIN⟩, unhide B3⟩
end Go.Proofs.Ytakjnbdjjeccoaa
