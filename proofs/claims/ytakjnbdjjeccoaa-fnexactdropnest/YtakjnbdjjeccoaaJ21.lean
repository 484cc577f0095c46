/- GTol, GGs, one behind the other. -/
import Derived.Test.YtakjnbdjjeccoaaJ20
import Derived.Test.YtakjnbdjjeccoaaJ8
/- impl.toldNests. -/
namespace Go.Proofs.Ytakjnbdjjeccoaa
open Go.RowKit Go.Maps

/-- A set of nests, told: nothing where they are too many. -/
def TN (S : Bs × Bs → Prop) (r : List NestT) : Prop :=
  (r = [] ∧ ∃ us : List (Bs × Bs), us.Nodup ∧ (∀ p, p ∈ us ↔ S p) ∧ 200 < us.length) ∨ (r.length ≤ 200 ∧ r.Pairwise (fun a b => cfN (a.f0, a.f1) (b.f0, b.f1) < 0) ∧ ∀ x : NestT, x ∈ r ↔ S (x.f0, x.f1))
theorem nest_inj {a b : NestT} (h : (a.f0, a.f1) = (b.f0, b.f1)) : a = b := by
  cases a; cases b; simp at h; rw [h.1, h.2]
open Classical in
theorem TN.uniq {S : Bs × Bs → Prop} {r s : List NestT} (h : TN S r) (k : TN S s) : r = s := by
  have aux : ∀ {r : List NestT}, r.length ≤ 200 → (∀ x : NestT, x ∈ r ↔ S (x.f0, x.f1)) → ∀ us : List (Bs × Bs), us.Nodup → (∀ p, p ∈ us ↔ S p) → 200 < us.length → False := fun {r} h1 h2 us h3 h4 h5 => by
    have := nodup_le us (r.map fun x => (x.f0, x.f1)) h3 (fun p hp => List.mem_map.2 ⟨⟨p.1, p.2⟩, (h2 _).2 ((h4 p).1 hp), rfl⟩)
    rw [List.length_map] at this
    omega
  rcases h with ⟨h1, us, h2, h3, h4⟩ | ⟨h1, h2, h3⟩ <;> rcases k with ⟨k1, us', k2, k3, k4⟩ | ⟨k1, k2, k3⟩
  · rw [h1, k1]
  · exact (aux k1 k3 us h2 h3 h4).elim
  · exact (aux h1 h3 us' k2 k3 k4).elim
  · exact rising_ext (fun a b : NestT => cfN (a.f0, a.f1) (b.f0, b.f1) < 0) (fun _ => cfN_irr _) (fun _ _ _ => cfN_tr _ _ _) r s h2 k2 (fun x => by rw [h3 x, k3 x])
theorem TN.len {S : Bs × Bs → Prop} {r : List NestT} (h : TN S r) : r.length ≤ 200 := by
  rcases h with ⟨h1, _⟩ | ⟨h1, _⟩
  · rw [h1]; simp
  · exact h1
theorem celsM_eq (ss : List (Bs × Bs)) : celsM ss = NestsV (ss.map fun p => (⟨p.1, p.2⟩ : NestT)) := by
  unfold celsM NestsV
  rw [List.flatMap_map]
  rfl

set_option maxRecDepth 100000 in
set_option maxHeartbeats 1000000 in
theorem toldNests_any (b n : Nat) (S : Bs × Bs → Prop) (w : World) (hK : KM Try.prog 42 encN w b n (seM S)) (hS : ∀ p, S p → okKN p) :
    Calls Try.prog 62 #[.map (some b)] w fun e w' => (∃ v r, e = .returned v ∧ TN S r ∧ w'.ownsRow w.heap.size 42 2 v r.length (NestsV r)) ∧ Below w.heap.size w w' := by
  obtain ⟨D, hown, hKD⟩ := hK
  have hblt := hown.lt
  obtain ⟨us, u1, u2, u3⟩ := size_keys hown
  have hmem : ∀ ss : List (Bs × Bs), (∀ x, x ∈ ss ↔ ∃ kl, keyOf Try.prog 42 (encN x) = some kl ∧ Maps.has D kl = true) → ∀ p, p ∈ ss ↔ S p := fun ss hss p => by
    rw [hss p]
    constructor
    · rintro ⟨kl, e1, e2⟩
      rw [(hKD p kl e1).1] at e2
      exact seM_isSome.1 e2
    · intro hp
      obtain ⟨kl, hkl⟩ := kNest.key p (hS p hp)
      exact ⟨kl, hkl, by rw [(hKD p kl hkl).1]; exact seM_isSome.2 hp⟩
  have hsz := hown.size_le
  have hl9 : ∀ ty, (Builtin.len_ #[78] ty #[.map (some b)]).run Try.prog w = .ok (.int .i64 (Maps.size D)) w := fun ty => hown.len Try.underlying78 ty
  by_cases hlen : 200 < Maps.size D
  · have FIN := hide (show TN S [] from .inl ⟨rfl, us, u2, hmem us u3, by omega⟩)
    clear hmem hKD u3 u2 u1 hown
    go_enter Try.func62, Try.ntmps62
    go_wp2_with fail
    go_ret
    exact ⟨⟨_, [], rfl, unhide FIN, World.ownsRow_nil _ _ _ _⟩, Below.refl _ _⟩
  · have dl : decide ((200 : Int) < (Maps.size D : Int)) = false := decide_eq_false (by omega)
    have qs := hide (sortedFuncM b n D w hown (by omega))
    have qk := hide (fun W => keysOfM (some b) W)
    have KS := hide (show ∀ ss, SrtM D ss → TN S (ss.map fun p => (⟨p.1, p.2⟩ : NestT)) from fun ss hss => by
      have hm := hmem ss hss.keys.2
      refine .inr ⟨?_, by rw [List.pairwise_map]; exact hss.ris, fun x => ?_⟩
      · rw [List.length_map]
        have := @nodup_le _ (fun _ _ => Classical.propDecidable _) ss us hss.keys.1 (fun p hp => (hmem us u3 p).2 ((hm p).1 hp))
        omega
      · rw [List.mem_map]
        constructor
        · rintro ⟨p, hp, rfl⟩; exact (hm p).1 hp
        · intro h; exact ⟨(x.f0, x.f1), (hm _).2 h, rfl⟩)
    have B0 := hide (bAl (Below.refl w.heap.size w) (.cells #[.map (some b)] 78))
    clear hmem hKD u3 u2 u1 hown hlen
    go_enter Try.func62, Try.ntmps62
    go_wp2_with fail
    refine (unhide qk _).mono ?_
    rintro e w2 ⟨rfl, hw2⟩
    subst hw2
    go_wp2_with fail
    refine (unhide qs).mono ?_
    rintro e w3 ⟨v, ss, rfl, hss, hrow, hb3⟩
    have FIN := hide (show TN S (ss.map fun p => (⟨p.1, p.2⟩ : NestT)) ∧ w3.ownsRow w.heap.size 42 2 v (ss.map fun p => (⟨p.1, p.2⟩ : NestT)).length (NestsV (ss.map fun p => (⟨p.1, p.2⟩ : NestT))) from ⟨unhide KS ss hss, by
      rw [List.length_map, ← celsM_eq]
      exact own_base hrow (unhide B0).size⟩)
    have B3 := hide (bTr (unhide B0) hb3)
    clear qk qs hss hrow hb3 KS B0
    go_wp2_with fail
    go_ret
    exact ⟨⟨_, _, rfl, unhide FIN⟩, unhide B3⟩
end Go.Proofs.Ytakjnbdjjeccoaa
/- spec.GoodNests. -/
namespace Go.Proofs.Ytakjnbdjjeccoaa
open Go.RowKit

set_option maxRecDepth 20000 in
set_option maxHeartbeats 4000000 in
theorem sGoodNests_any (a : Option Addr) (len cap : Nat) (l : List NestT) (w : World) (hl : len ≤ maxLen) (hs : SlNest w a len l) (hok : ∀ q ∈ l, NestT.Ok q) :
    Calls Try.prog 12 #[.slice a len cap] w fun e w' => RetB e (GoodL l) ∧ Below w.heap.size w w' := by
  unfold maxLen at hl
  have HS := hide hs
  have HO := hide hok
  have HL := hide hs.1
  clear hs hok
  by_cases h200 : 200 < len
  · have NO : Hid (¬ GoodL l) := hide (fun h => by have := h.1; have := unhide HL; omega)
    go_enter Try.func12, Try.ntmps12
    go_wp2_with fail
    go_ret
    exact ⟨retB (b := false) ⟨fun h => (by cases h), fun h => absurd h (unhide NO)⟩, Below.refl _ _⟩
  have d200 : decide ((200 : Int) < (len : Int)) = false := by simp; omega
  go_enter Try.func12, Try.ntmps12
  go_wp2_with fail
  go_loopw [10] (fun i w' => ∃ k : Nat, k ≤ len ∧ i = .int .i64 k ∧ Hid (Below w.heap.size w w') ∧ Hid (AllG l k) ∧ Hid (RisNs l k)) (fun i _ => len - (Go.RowKit.intOf i).toNat)
  case atStart => exact ⟨0, Nat.zero_le _, rfl, hide (Below.refl _ _), hide (fun i _ h => absurd h (Nat.not_lt_zero _)), hide (fun i _ _ h => absurd h (Nat.not_lt_zero _))⟩
  case round =>
    obtain ⟨k, hk, rfl, hb, hA, hR⟩ := hrel
    by_cases hlt : k < len
    · have hk' : k < l.length := by rw [← unhide HL]; exact hlt
      obtain ⟨b, off, rfl, hrow⟩ := ((unhide HS).keep (unhide hb)).at hlt
      have c0 := hrow.c0 k hk'
      have c1 := hrow.c1 k hk'
      have zk := hrow.z
      have ho := unhide HO _ (List.getElem_mem hk')
      have q1 := hide (fun w => l5Group_any (l[k]).f0 ho.o0 w)
      have q2 := hide (fun w => sGoodName_any (l[k]).f1 ho.o1 w)
      have eA : Hid (isGrp (l[k]).f0 = true → goodName (l[k]).f1 = true → AllG l (k + 1)) := hide (fun g h => (unhide hA).step hk' (by unfold gNe gNest; rw [g, h]; rfl))
      have eX : Hid (isGrp (l[k]).f0 = false → ¬ GoodL l) := hide (fun g h => by have := h.2.1 k hk' hk'; unfold gNe gNest at this; rw [g] at this; cases this)
      have eY : Hid (goodName (l[k]).f1 = false → ¬ GoodL l) := hide (fun g h => by have := h.2.1 k hk' hk'; unfold gNe gNest at this; rw [g] at this; simp at this)
      obtain ⟨W, hW⟩ : ∃ W, W = wr.alloc (.cells #[.string (l[k]).f0, .string (l[k]).f1] 42) := ⟨_, rfl⟩
      have HW := hide hW.symm
      have b1 : Below wr.heap.size wr W := by rw [hW]; exact bAl (Below.refl _ _) _
      have r1 := show RowIs W wr.heap.size #[.string (l[k]).f0, .string (l[k]).f1] 42 by rw [hW]; exact RowIs.new _ _ _
      have HB := hide (bTr (unhide hb) b1)
      have ne : Nonempty (Kept W) := ⟨⟨W, Below.refl _ _⟩⟩
      have x0 := kept_cell r1.lt (r1.at (o := 0) (v := .string (l[k]).f0) rfl)
      have x1 := kept_cell r1.lt (r1.at (o := 1) (v := .string (l[k]).f1) rfl)
      rcases Nat.eq_zero_or_pos k with hk0 | hk0
      · subst hk0
        simp only [Nat.zero_mul, Nat.add_zero] at c0 c1
        have eR : Hid (RisNs l (0 + 1)) := hide (fun i _ h1 h2 => absurd h1 (by omega))
        have q3 := hide (fun w => l5CmpNest_any (l[0]).f0 (l[0]).f1 (l[0]).f0 (l[0]).f1 ho.o0 ho.o1 w)
        clear hrow ho hW r1 b1
        generalize l[0] = A at *
        cases hX : isGrp A.f0
        · rw [hX] at q1
          have NO := hide (unhide eX hX)
          clear eX eY eA hX
          go_wp2_with fail
          rw [unhide HW]
          refine wp_region_kept (by kernel_rfl) (by kernel_rfl) ?_
          repeat (first
            | go_big_quiet_step (first | (go_at_call 42; exact kept_same (unhide q1 _)) | (go_at_call 43; exact kept_same (unhide q2 _)) | (go_at_call 44; exact kept_call (unhide q3 _)))
            | quiet_step (first | (go_at_call 42; exact kept_same (unhide q1 _)) | (go_at_call 43; exact kept_same (unhide q2 _)) | (go_at_call 44; exact kept_call (unhide q3 _))))
          refine wpQuiet_nil ?_
          rintro _ ⟨q, rfl⟩
          go_wp2_with fail
          go_ret
          exact ⟨retB (b := false) ⟨fun h => (by cases h), fun h => absurd h (unhide NO)⟩, bTr (unhide HB) q.h⟩
        · cases hY : goodName A.f1
          · rw [hX] at q1
            rw [hY] at q2
            have NO := hide (unhide eY hY)
            clear eX eY eA hX hY
            go_wp2_with fail
            rw [unhide HW]
            refine wp_region_kept (by kernel_rfl) (by kernel_rfl) ?_
            repeat (first
              | go_big_quiet_step (first | (go_at_call 42; exact kept_same (unhide q1 _)) | (go_at_call 43; exact kept_same (unhide q2 _)) | (go_at_call 44; exact kept_call (unhide q3 _)))
              | quiet_step (first | (go_at_call 42; exact kept_same (unhide q1 _)) | (go_at_call 43; exact kept_same (unhide q2 _)) | (go_at_call 44; exact kept_call (unhide q3 _))))
            refine wpQuiet_nil ?_
            rintro _ ⟨q, rfl⟩
            go_wp2_with fail
            go_ret
            exact ⟨retB (b := false) ⟨fun h => (by cases h), fun h => absurd h (unhide NO)⟩, bTr (unhide HB) q.h⟩
          · rw [hX] at q1
            rw [hY] at q2
            replace hX := hide hX
            replace hY := hide hY
            clear eX eY
            go_wp2_with fail
            rw [unhide HW]
            refine wp_region_kept (by kernel_rfl) (by kernel_rfl) ?_
            repeat (first
              | go_big_quiet_step (first | (go_at_call 42; exact kept_same (unhide q1 _)) | (go_at_call 43; exact kept_same (unhide q2 _)) | (go_at_call 44; exact kept_call (unhide q3 _)))
              | quiet_step (first | (go_at_call 42; exact kept_same (unhide q1 _)) | (go_at_call 43; exact kept_same (unhide q2 _)) | (go_at_call 44; exact kept_call (unhide q3 _))))
            refine wpQuiet_nil ?_
            rintro _ ⟨q, rfl⟩
            go_wp2_with fail
            exact ⟨⟨0 + 1, by omega, by go_num, hide (bTr (unhide HB) q.h), hide (unhide eA (unhide hX) (unhide hY)), eR⟩, by simp [Go.RowKit.intOf]; omega⟩
      · obtain ⟨j, rfl⟩ : ∃ j, k = j + 1 := ⟨k - 1, by omega⟩
        have hj : j < l.length := by omega
        have hj' := unhide HO _ (List.getElem_mem hj)
        have p0 := kept_cell (Nat.lt_of_lt_of_le zk b1.size) (cellB b1 zk (hrow.c0 j hj))
        have p1 := kept_cell (Nat.lt_of_lt_of_le zk b1.size) (cellB b1 zk (hrow.c1 j hj))
        have q3 := hide (fun w => l5CmpNest_any (l[j]).f0 (l[j]).f1 (l[j + 1]).f0 (l[j + 1]).f1 hj'.o0 hj'.o1 w)
        have eR0 : Hid (cmpNe (l[j]).f0 (l[j]).f1 (l[j + 1]).f0 (l[j + 1]).f1 < 0 → RisNs l (j + 1 + 1)) := hide (fun g => (unhide hR).step hk' (fun _ => g))
        have eN : Hid (¬ cmpNe (l[j]).f0 (l[j]).f1 (l[j + 1]).f0 (l[j + 1]).f1 < 0 → ¬ GoodL l) := hide (fun g h => g (h.2.2 (j + 1) hk' (by omega) hk'))
        have ej : IntKind.i64.wrap ((j : Int) + 1 - 1) = (j : Int) := by rw [IntKind.wrap_i64]; omega
        have i0 : (0 : Int) ≤ (j : Int) := by omega
        have i1 : (j : Int) < (len : Int) := by omega
        have i2 : (j : Int) + 1 < (len : Int) := by omega
        have i3 : decide ((0 : Int) < (j : Int) + 1) = true := decide_eq_true (by omega)
        clear hrow ho hW r1 b1 hj'
        generalize l[j + 1] = A at *
        generalize l[j] = E at *
        generalize cmpNe E.f0 E.f1 A.f0 A.f1 = V at *
        cases hX : isGrp A.f0
        · rw [hX] at q1
          have NO := hide (unhide eX hX)
          clear eX eY eA hX eR0 eN
          go_wp2_with fail
          rw [unhide HW]
          refine wp_region_kept (by kernel_rfl) (by kernel_rfl) ?_
          repeat (first
            | go_big_quiet_step (first | (go_at_call 42; exact kept_same (unhide q1 _)) | (go_at_call 43; exact kept_same (unhide q2 _)) | (go_at_call 44; exact kept_call (unhide q3 _)))
            | quiet_step (first | (go_at_call 42; exact kept_same (unhide q1 _)) | (go_at_call 43; exact kept_same (unhide q2 _)) | (go_at_call 44; exact kept_call (unhide q3 _))))
          refine wpQuiet_nil ?_
          rintro _ ⟨q, rfl⟩
          go_wp2_with fail
          go_ret
          exact ⟨retB (b := false) ⟨fun h => (by cases h), fun h => absurd h (unhide NO)⟩, bTr (unhide HB) q.h⟩
        · cases hY : goodName A.f1
          · rw [hX] at q1
            rw [hY] at q2
            have NO := hide (unhide eY hY)
            clear eX eY eA hX hY eR0 eN
            go_wp2_with fail
            rw [unhide HW]
            refine wp_region_kept (by kernel_rfl) (by kernel_rfl) ?_
            repeat (first
              | go_big_quiet_step (first | (go_at_call 42; exact kept_same (unhide q1 _)) | (go_at_call 43; exact kept_same (unhide q2 _)) | (go_at_call 44; exact kept_call (unhide q3 _)))
              | quiet_step (first | (go_at_call 42; exact kept_same (unhide q1 _)) | (go_at_call 43; exact kept_same (unhide q2 _)) | (go_at_call 44; exact kept_call (unhide q3 _))))
            refine wpQuiet_nil ?_
            rintro _ ⟨q, rfl⟩
            go_wp2_with fail
            go_ret
            exact ⟨retB (b := false) ⟨fun h => (by cases h), fun h => absurd h (unhide NO)⟩, bTr (unhide HB) q.h⟩
          · rw [hX] at q1
            rw [hY] at q2
            replace hX := hide hX
            replace hY := hide hY
            clear eX eY
            by_cases hc : V < 0
            · have dc : decide (0 ≤ V) = false := by simp; omega
              have eR := hide (unhide eR0 hc)
              clear hc eR0 eN
              go_wp2_with fail
              rw [unhide HW]
              refine wp_region_kept (by kernel_rfl) (by kernel_rfl) ?_
              repeat (first
                | go_big_quiet_step (first | (go_at_call 42; exact kept_same (unhide q1 _)) | (go_at_call 43; exact kept_same (unhide q2 _)) | (go_at_call 44; exact kept_call (unhide q3 _)))
                | quiet_step (first | (go_at_call 42; exact kept_same (unhide q1 _)) | (go_at_call 43; exact kept_same (unhide q2 _)) | (go_at_call 44; exact kept_call (unhide q3 _))))
              refine wpQuiet_nil ?_
              rintro _ ⟨q, rfl⟩
              go_wp2_with fail
              exact ⟨⟨j + 1 + 1, by omega, by go_num, hide (bTr (unhide HB) q.h), hide (unhide eA (unhide hX) (unhide hY)), eR⟩, by simp [Go.RowKit.intOf]; omega⟩
            · have dc : decide (0 ≤ V) = true := by simp; omega
              have NO := hide (unhide eN hc)
              clear hc eR0 eN
              go_wp2_with fail
              rw [unhide HW]
              refine wp_region_kept (by kernel_rfl) (by kernel_rfl) ?_
              repeat (first
                | go_big_quiet_step (first | (go_at_call 42; exact kept_same (unhide q1 _)) | (go_at_call 43; exact kept_same (unhide q2 _)) | (go_at_call 44; exact kept_call (unhide q3 _)))
                | quiet_step (first | (go_at_call 42; exact kept_same (unhide q1 _)) | (go_at_call 43; exact kept_same (unhide q2 _)) | (go_at_call 44; exact kept_call (unhide q3 _))))
              refine wpQuiet_nil ?_
              rintro _ ⟨q, rfl⟩
              go_wp2_with fail
              go_ret
              exact ⟨retB (b := false) ⟨fun h => (by cases h), fun h => absurd h (unhide NO)⟩, bTr (unhide HB) q.h⟩
    · have YES : Hid (GoodL l) := hide ⟨by have := unhide HL; omega, fun i h _ => unhide hA i h (by have := unhide HL; omega), fun i h h0 _ => unhide hR i h h0 (by have := unhide HL; omega)⟩
      go_wp2_with fail
      go_ret
      exact ⟨retB (b := true) ⟨fun _ => unhide YES, fun _ => rfl⟩, unhide hb⟩
end Go.Proofs.Ytakjnbdjjeccoaa
