/- impl.nestGraph: the graph of a list of nests. -/
import Derived.Test.YtakjnbdjjeccoaaGJoi
import Derived.Test.YtakjnbdjjeccoaaGGf
namespace Go.Proofs.Ytakjnbdjjeccoaa
open Go.RowKit Go.Maps

/-- What is in what by one nest of a good list. -/
def EdG (l : List NestT) (a b : Bs) : Prop := GoodL l ∧ ∃ i, ∃ h : i < l.length, l[i].f0 = a ∧ l[i].f1 = b
/-- .. by one of the first k. -/
def EdK (l : List NestT) (k : Nat) (p : Bs × Bs) : Prop := ∃ i, ∃ h : i < l.length, i < k ∧ (l[i].f0, l[i].f1) = p
theorem EdK.succ {l : List NestT} {k : Nat} (hk : k < l.length) (es : List (Bs × Bs)) (h : ∀ p, p ∈ es ↔ EdK l k p) : ∀ p, p ∈ (l[k].f0, l[k].f1) :: es ↔ EdK l (k + 1) p := by
  intro p
  rw [List.mem_cons, h p]
  constructor
  · rintro (rfl | ⟨i, hi, h1, h2⟩)
    · exact ⟨k, hk, by omega, rfl⟩
    · exact ⟨i, hi, by omega, h2⟩
  · rintro ⟨i, hi, h1, h2⟩
    by_cases e : i = k
    · subst e; exact .inl h2.symm
    · exact .inr ⟨i, hi, by omega, h2⟩

set_option maxRecDepth 100000 in
set_option maxHeartbeats 1000000 in
theorem nestGraph_any (a : Option Addr) (len cap : Nat) (l : List NestT) (w : World) (hl : len ≤ maxLen) (hs : SlNest w a len l) (hok : ∀ q ∈ l, NestT.Ok q) :
    Calls Try.prog 51 #[.slice a len cap] w fun e w' => (∃ bg es tab, e = .returned (.map (some bg)) ∧ GM w' w.heap.size bg 1000 es tab ∧ (∀ x y, (x, y) ∈ es ↔ EdG l x y) ∧ es.length ≤ 200) ∧ Below w.heap.size w w' := by
  have HS := hide hs
  have HO := hide hok
  have HL := hide hs.1
  obtain ⟨W, hW⟩ : ∃ W, W = w.alloc (.map #[] 0) := ⟨_, rfl⟩
  have G0 := hide (show GM W w.heap.size w.heap.size 0 [] (fun _ => none) by rw [hW]; exact GM.made w _ (Nat.le_refl _))
  have B0 := hide (show Below w.heap.size w W by rw [hW]; exact bAl (Below.refl _ _) _)
  have HW := hide hW.symm
  have q := hide (iGoodNests_any a len cap l W hl (hs.keep (unhide B0)) hok)
  have hmm := @run_makeMap Try.prog
  clear hs hok hW
  unfold maxLen at hl
  go_enter Try.func51, Try.ntmps51
  go_wp2_with fail
  rw [unhide HW]
  refine (unhide q).mono ?_
  rintro e w1 ⟨⟨v, rfl, hv⟩, hb⟩
  have G1 := hide ((unhide G0).keepB hb (Nat.le_refl _))
  have B1 := hide (bTr (unhide B0) hb)
  have HV := hide hv
  clear hb hv q G0 B0 HW hmm
  cases v
  · have NO : Hid (¬ GoodL l) := hide (fun h => by have := (unhide HV).2 h; cases this)
    go_wp2_with fail
    go_ret
    exact ⟨⟨_, [], _, rfl, ⟨(unhide G1).base, (unhide G1).top.more (by omega), fun a b e => ((unhide G1).kid a b e).more (by omega), (unhide G1).inj, (unhide G1).ge, (unhide G1).has, (unhide G1).ok⟩, fun x y => ⟨fun h => by simp at h, fun h => absurd h.1 (unhide NO)⟩, by simp⟩, unhide B1⟩
  · have YES : Hid (GoodL l) := hide ((unhide HV).1 rfl)
    have h200 : len ≤ 200 := by rw [unhide HL]; exact (unhide YES).1
    clear HV
    go_wp2_with fail
    go_loopw [13] (fun i w' => ∃ (k : Nat) (es : List (Bs × Bs)) (tab : Bs → Option Nat), k ≤ len ∧ i = .int .i64 k ∧ Hid (GM w' w.heap.size w.heap.size k es tab) ∧ Hid (∀ p, p ∈ es ↔ EdK l k p) ∧ Hid (es.length = k) ∧ Hid (Below w.heap.size w w')) (fun i _ => len - (Go.RowKit.intOf i).toNat)
    case atStart => exact ⟨0, [], _, Nat.zero_le _, rfl, G1, hide (fun p => ⟨fun h => by simp at h, fun ⟨_, _, h, _⟩ => absurd h (Nat.not_lt_zero _)⟩), hide rfl, B1⟩
    case round =>
      clear G1 B1
      obtain ⟨k, es, tab, hk, rfl, hG, hE, hEl, hB⟩ := hrel
      by_cases hlt : k < len
      · have hk' : k < l.length := by rw [← unhide HL]; exact hlt
        obtain ⟨b, off, rfl, hrow⟩ := ((unhide HS).keep (unhide hB)).at hlt
        have c0 := hrow.c0 k hk'
        have c1 := hrow.c1 k hk'
        have zk := hrow.z
        have ho := unhide HO _ (List.getElem_mem hk')
        have eE := hide (EdK.succ hk' es (unhide hE))
        obtain ⟨W2, hW2⟩ : ∃ W, W = wr.alloc (.cells #[.string (l[k]).f0, .string (l[k]).f1] 42) := ⟨_, rfl⟩
        have g2 : wr.grownBy W2 none := by rw [hW2]; exact World.grownBy_alloc _ _ _
        have G2 := hide ((unhide hG).grown g2 (fun r h => by cases h))
        have b2 : Below wr.heap.size wr W2 := by rw [hW2]; exact bAl (Below.refl _ _) _
        have B2 := hide (bTr (unhide hB) b2)
        have qj := hide (join_any w.heap.size w.heap.size k es tab (l[k]).f0 (l[k]).f1 W2 (unhide G2) (unhide B2).size (by omega) ho.o0 ho.o1)
        have HW2 := hide hW2.symm
        clear hrow ho hW2 g2 b2 hG hE hB
        generalize l[k] = A at c0 c1 qj eE HW2
        go_wp2_with fail
        rw [unhide HW2]
        refine (unhide qj).mono ?_
        rintro e w3 ⟨rfl, ⟨tab', hG3⟩, hK3⟩
        have G3 := hide hG3
        have B3 := hide ((unhide B2).trans (hK3.below (unhide B2).size))
        clear hG3 hK3 qj HW2 c0 c1 G2 B2
        go_wp2_with fail
        exact ⟨⟨k + 1, _, tab', by omega, by go_num, G3, eE, hide (by rw [List.length_cons, unhide hEl]), B3⟩, by simp [Go.RowKit.intOf]; omega⟩
      · have ek : k = l.length := by rw [← unhide HL]; omega
        have FIN := hide (show GM wr w.heap.size w.heap.size 1000 es tab ∧ (∀ x y, (x, y) ∈ es ↔ EdG l x y) ∧ es.length ≤ 200 from by
          have G := unhide hG
          refine ⟨⟨G.base, G.top.more (by omega), fun a b e => (G.kid a b e).more (by omega), G.inj, G.ge, G.has, G.ok⟩, fun x y => ?_, ?_⟩
          · rw [unhide hE (x, y)]
            constructor
            · rintro ⟨i, hi, _, h2⟩
              simp only [Prod.mk.injEq] at h2
              exact ⟨unhide YES, i, hi, h2⟩
            · rintro ⟨_, i, hi, h1, h2⟩
              exact ⟨i, hi, by omega, by rw [h1, h2]⟩
          · rw [unhide hEl]; omega)
        clear hG hE ek
        go_wp2_with fail
        go_ret
        exact ⟨⟨_, es, tab, rfl, unhide FIN⟩, unhide hB⟩
end Go.Proofs.Ytakjnbdjjeccoaa
