/- spec.l4Receive, spec.Receive. -/
import Derived.Test.YtpdnimchmgbijaaQRcI
import Derived.Test.YtpdnimchmgbijaaQChH
import Derived.Test.YtpdnimchmgbijaaQApp
import Derived.Deep.RegionHeld3
import Derived.Deep.RegionWith
namespace Go.Proofs.Ytpdnimchmgbijaa
open Go.RowKit

theorem insC_same {c : DcT} {L : List DcT} (h : aheadC c L < L.length) (hs : sameC L[aheadC c L] c) : insC c L = L := by
  rw [insC_eq, dif_pos h, if_pos hs]
theorem insC_new {c : DcT} {L : List DcT} (h : ∀ h : aheadC c L < L.length, ¬ sameC L[aheadC c L] c) : insC c L = L.take (aheadC c L) ++ c :: L.drop (aheadC c L) := by
  rw [insC_eq]
  split
  · rename_i h1; rw [if_neg (h h1)]
  · rfl
theorem recv_snoc (l l' : List DcT) (k : Nat) (h : k < l'.length) : recv l (l'.take (k + 1)) = insC l'[k] (recv l (l'.take k)) := by
  unfold recv
  rw [List.take_succ_eq_append_getElem h, List.foldl_append]; rfl

theorem wp_at {P : Program} {c : Code} {Q : Exit → Act → World → Prop} {a : Act} {w : World} (R : World → Prop) (h : R w) (hw : ∀ w', R w' → c.wp P Q a w') : c.wp P Q a w := hw w h
def acA (A : DcT) : Array Value := #[.int .i64 A.t, .int .i64 A.o, .int .i64 A.k, .int .i64 A.u, .int .i64 A.p, .string A.pa, .string A.pt, .string A.a, .string A.x]
/-- What is kept along the appends: the row of what was, the change's box. -/
structure RS (W1 w4 : World) (g : Nat) (cur : Array Value) (bx : Nat) (A : DcT) (w' : World) : Prop where
  row : RowIs w' g cur 46
  box : RowIs w' bx (acA A) 46
  bel : Below W1.heap.size W1 w'
  size : w4.heap.size ≤ w'.heap.size
theorem RS.grow {W1 w4 : World} {g : Nat} {cur : Array Value} {bx : Nat} {A : DcT} {w w' : World} {row : Option Nat} (h : RS W1 w4 g cur bx A w) (hz : W1.heap.size ≤ w4.heap.size) (hg : g < w4.heap.size) (hb : bx < w4.heap.size) (hgr : w.grownBy w' row) (hr : ∀ k, row = some k → w4.heap.size ≤ k) : RS W1 w4 g cur bx A w' := by
  refine ⟨?_, ?_, h.bel.grown hgr h.bel.size (fun k e => Nat.le_trans hz (hr k e)), Nat.le_trans h.size hgr.size⟩
  · have hl := h.row.lt
    have hh := h.row
    unfold RowIs at *; rw [hgr.block g hl (fun e => by have := hr g e.symm; omega)]; exact hh
  · have hl := h.box.lt
    have hh := h.box
    unfold RowIs at *; rw [hgr.block bx hl (fun e => by have := hr bx e.symm; omega)]; exact hh
theorem RS.alloc {W1 w4 : World} {g : Nat} {cur : Array Value} {bx : Nat} {A : DcT} {w : World} (h : RS W1 w4 g cur bx A w) (o : Obj) : RS W1 w4 g cur bx A (w.alloc o) :=
  ⟨h.row.keep (bAl (Below.refl _ _) _), h.box.keep (bAl (Below.refl _ _) _), h.bel.alloc h.bel.size _, by have := h.size; simp; omega⟩
theorem RS.drew {W1 w4 : World} {g : Nat} {cur : Array Value} {bx : Nat} {A : DcT} {w : World} (h : RS W1 w4 g cur bx A w) : RS W1 w4 g cur bx A w.drew := ⟨h.row, h.box, h.bel.drew, h.size⟩
theorem RS.cells {W1 w4 : World} {g : Nat} {cur : Array Value} {bx : Nat} {A : DcT} {w : World} (h : RS W1 w4 g cur bx A w) :
    w.cell? ⟨bx, 0, none⟩ = some (.int .i64 A.t) ∧ w.cell? ⟨bx, 1, none⟩ = some (.int .i64 A.o) ∧ w.cell? ⟨bx, 2, none⟩ = some (.int .i64 A.k) ∧ w.cell? ⟨bx, 3, none⟩ = some (.int .i64 A.u) ∧ w.cell? ⟨bx, 4, none⟩ = some (.int .i64 A.p) ∧ w.cell? ⟨bx, 5, none⟩ = some (.string A.pa) ∧ w.cell? ⟨bx, 6, none⟩ = some (.string A.pt) ∧ w.cell? ⟨bx, 7, none⟩ = some (.string A.a) ∧ w.cell? ⟨bx, 8, none⟩ = some (.string A.x) :=
  ⟨h.box.at rfl, h.box.at rfl, h.box.at rfl, h.box.at rfl, h.box.at rfl, h.box.at rfl, h.box.at rfl, h.box.at rfl, h.box.at rfl⟩
theorem row_news {w : World} {b : Nat} {C : Array Value} {T : TypeId} (h : RowIs w b C T) (l : List Value) (hl : l = C.toList) : ∀ j u, l[j]? = some u → w.cell? ((⟨b, 0, none⟩ : Addr).add j) = some u := by
  subst hl
  intro j u hu
  rw [addr_plus, Nat.zero_add]
  exact h.at (by rw [← Array.getElem?_toList]; exact hu)
/-- What an owned slice of changes is. -/
theorem own_form {w : World} {base : Nat} {ao : Option Addr} {n cp : Nat} {V : List DcT} (h : w.ownsRow base 46 9 (.slice ao n cp) V.length (dcsV V)) :
    (ao = none ∧ n = 0 ∧ cp = 0 ∧ V = []) ∨ ∃ g cur, ao = some ⟨g, 0, none⟩ ∧ RowIs w g cur 46 ∧ n = V.length ∧ V.length ≤ cp ∧ cp ≤ maxLen ∧ cur.toList.take (V.length * 9) = dcsV V ∧ base ≤ g := by
  rcases h.2 with ⟨e, e0⟩ | ⟨g, cap, cur, e, hb, hh, h1, h2, _, h4⟩
  · cases e
    exact .inl ⟨rfl, rfl, rfl, List.length_eq_zero_iff.1 e0⟩
  · cases e
    exact .inr ⟨g, cur, rfl, hh, rfl, h1, h2, h4, hb⟩
theorem cur_news {w : World} {g : Nat} {cur : Array Value} {V : List DcT} (hr : RowIs w g cur 46) (ht : cur.toList.take (V.length * 9) = dcsV V) (j : Nat) :
    (∀ i u, (dcsV (V.take j))[i]? = some u → w.cell? ((⟨g, 0, none⟩ : Addr).add i) = some u) ∧ ∀ i u, (dcsV (V.drop j))[i]? = some u → w.cell? ((⟨g, j * 9, none⟩ : Addr).add i) = some u := by
  have hc : ∀ i u, (dcsV V)[i]? = some u → w.cell? ⟨g, i, none⟩ = some u := fun i u hu => by
    rw [← ht, List.getElem?_take] at hu
    rw [hr.cell, ← Array.getElem?_toList]
    split at hu
    · exact hu
    · cases hu
  have e : dcsV V = dcsV (V.take j) ++ dcsV (V.drop j) := by
    unfold dcsV
    rw [← List.flatMap_append, List.take_append_drop]
  constructor
  · intro i u hu
    have hi := (List.getElem?_eq_some_iff.1 hu).1
    rw [addr_plus, Nat.zero_add]
    exact hc i u (by rw [e, List.getElem?_append_left hi]; exact hu)
  · intro i u hu
    have hi := (List.getElem?_eq_some_iff.1 hu).1
    rw [dcsV_len, List.length_drop] at hi
    rw [addr_plus]
    refine hc (j * 9 + i) u ?_
    have hl : (dcsV (V.take j)).length = j * 9 := by rw [dcsV_len, List.length_take]; omega
    rw [e, List.getElem?_append_right (by rw [hl]; omega), hl, show j * 9 + i - j * 9 = i by omega]
    exact hu

theorem own_ins {w w4 w7 : World} {V : List DcT} {A : DcT} {j : Nat} {v3 : Value} (eV : insC A V = V.take j ++ A :: V.drop j) (hj : j ≤ V.length) (h : w7.ownsRow w4.heap.size 46 9 v3 (0 + j + 1 + (V.length - j)) (([] ++ dcsV (V.take j)) ++ dcL A ++ dcsV (V.drop j))) (hz : w.heap.size ≤ w4.heap.size) :
    w7.ownsRow w.heap.size 46 9 v3 (insC A V).length (dcsV (insC A V)) := by
  have e1 : (insC A V).length = 0 + j + 1 + (V.length - j) := by rw [eV, List.length_append, List.length_cons, List.length_take, List.length_drop]; omega
  have e2 : dcsV (insC A V) = ([] ++ dcsV (V.take j)) ++ dcL A ++ dcsV (V.drop j) := by rw [eV]; simp [dcsV]
  rw [e1, e2]
  exact own_base2 h hz

set_option maxRecDepth 100000 in
set_option maxHeartbeats 4000000 in
theorem l4Receive_any (ad : Addr) (len cap : Nat) (l : List DcT) (a' : Option Addr) (len' cap' : Nat) (l' : List DcT) (w : World) (hl : len ≤ 1000) (hs : SlC w (some ad) len l) (hl' : len' ≤ 1000) (hs' : SlC w a' len' l') :
    Calls Try.prog 13 #[.slice (some ad) len cap, .slice a' len' cap'] w fun e w' => (∃ v, e = .returned v ∧ w'.ownsRow w.heap.size 46 9 v (recv l l').length (dcsV (recv l l'))) ∧ Below w.heap.size w w' := by
  obtain ⟨i0, hi, hz0, hz1, hz2⟩ := info_parts info_change
  have HS := hide hs
  have HS' := hide hs'
  have hll := hide hs.1
  have hll' := hide hs'.1
  have NW := hide (show ∀ j u, (dcsV l)[j]? = some u → w.cell? (ad.add j) = some u from slc_news hs)
  have hlz : (dcsV l).length = len * 9 := by rw [dcsV_len, hs.1]
  clear hs hs'
  go_enter Try.func13, Try.ntmps13
  go_wp2_with (at_builtin; refine wpList_append_own _ rfl _ _ 24 rfl w.heap.size 46 i0 _ 9 104 Try.underlying24 hi hz0 hz1 hz2 rfl (by decide) _ _ _ rfl (World.ownsRow_nil _ _ _ _) ad len cap (dcsV l) rfl hlz (unhide NW) (dcsV_one l) (by unfold maxLen; omega) (by omega) (Nat.le_refl _) ?_; intro v0 w0 hown0 hgrow0 _; have O0 := hide hown0; have B0 := hide ((Below.refl w.heap.size w).grown hgrow0 (Nat.le_refl _) (fun _ h => by cases h)); clear hown0 hgrow0)
  go_loopw [5, 15] (fun v i w' => ∃ k : Nat, k ≤ len' ∧ i = .int .i64 k ∧ Hid (w'.ownsRow w.heap.size 46 9 v (recv l (l'.take k)).length (dcsV (recv l (l'.take k)))) ∧ Hid (Below w.heap.size w w')) (fun _ i _ => len' - (Go.RowKit.intOf i).toNat)
  case atStart => exact ⟨0, Nat.zero_le _, rfl, hide (by have := unhide O0; rw [Nat.zero_add, unhide hll] at this; exact this), B0⟩
  case round =>
    clear O0 B0 NW hlz
    obtain ⟨k, hk, rfl, hO, hB⟩ := hrel
    by_cases hlt : k < len'
    · have hk' : k < l'.length := by rw [← unhide hll']; exact hlt
      obtain ⟨g, off', rfl, hr⟩ := ((unhide HS').keep (unhide hB)).at hlt
      have c0 := hr.c0 k hk'
      have c1 := hr.c1 k hk'
      have c2 := hr.c2 k hk'
      have c3 := hr.c3 k hk'
      have c4 := hr.c4 k hk'
      have c5 := hr.c5 k hk'
      have c6 := hr.c6 k hk'
      have c7 := hr.c7 k hk'
      have c8 := hr.c8 k hk'
      have eP := hide (recv_snoc l l' k hk')
      have lnP : (recv l (l'.take k)).length ≤ 2000 := by
        have h1 := recv_len l (l'.take k)
        have h2 := unhide hll
        have h3 := unhide hll'
        rw [List.length_take] at h1
        omega
      generalize recv l (l'.take k) = V at hO eP lnP
      clear hr
      generalize l'[k] = A at c0 c1 c2 c3 c4 c5 c6 c7 c8 eP
      obtain ⟨W1, hW1⟩ : ∃ W', W' = wr.alloc (.cells #[.int .i64 A.t, .int .i64 A.o, .int .i64 A.k, .int .i64 A.u, .int .i64 A.p, .string A.pa, .string A.pt, .string A.a, .string A.x] 46) := ⟨_, rfl⟩
      obtain ⟨bx, hbx⟩ : ∃ bx, bx = wr.heap.size := ⟨_, rfl⟩
      have RB := hide (show RowIs W1 bx #[.int .i64 A.t, .int .i64 A.o, .int .i64 A.k, .int .i64 A.u, .int .i64 A.p, .string A.pa, .string A.pt, .string A.a, .string A.x] 46 by rw [hW1, hbx]; exact RowIs.new _ _ _)
      have HBX := hide hbx
      have BA := show Below wr.heap.size wr W1 by rw [hW1]; exact bAl (Below.refl _ _) _
      have B1 := hide (bTr (unhide hB) BA)
      have O1 := hide (own_keep (unhide hO) BA)
      have HW1 := hide hW1
      clear hW1 BA hO hB hbx
      obtain ⟨ao, cp, ev, hsl⟩ := own_dcs (unhide O1)
      obtain rfl := ev
      have HSL := hide hsl
      clear hsl
      go_wp2_with fail
      rw [← unhide HW1, ← unhide HBX]
      clear HW1 HBX c0 c1 c2 c3 c4 c5 c6 c7 c8
      have LE := aheadC_le A V
      go_loopw [8] (fun q w' => ∃ j : Nat, j ≤ aheadC A V ∧ q = .int .i64 j ∧ Hid (Below W1.heap.size W1 w')) (fun q _ => aheadC A V - (Go.RowKit.intOf q).toNat)
      case atStart => exact ⟨0, Nat.zero_le _, rfl, hide (Below.refl _ _)⟩
      case round =>
        obtain ⟨j, hj, rfl, hb⟩ := hrel
        by_cases hjl : j < V.length
        · obtain ⟨g2, off2, rfl, hr2⟩ := ((unhide HSL).keep (unhide hb)).at hjl
          have zk := hr2.z
          have p0 := hr2.c0 j hjl
          have p1 := hr2.c1 j hjl
          have R1 := (unhide RB).keep (unhide hb)
          have zB := R1.lt
          have b0 := R1.at (o := 0) (v := .int .i64 A.t) rfl
          have b1 := R1.at (o := 1) (v := .int .i64 A.o) rfl
          have lt1 := aheadC_lt A V j hjl
          have at1 : ¬ ltC (V[j]'hjl) A → j = aheadC A V := fun h => by
            rcases Nat.lt_or_ge j (aheadC A V) with h1 | h1
            · exact absurd (lt1 h1) h
            · omega
          have at2 : ltC (V[j]'hjl) A → j < aheadC A V := fun h => by
            rcases Nat.lt_or_ge j (aheadC A V) with h1 | h1
            · exact h1
            · have e : j = aheadC A V := by omega
              have := aheadC_at A V (by omega)
              simp only [← e] at this
              exact absurd h this
          have sm : sameC (V[j]'hjl) A → j = aheadC A V → insC A V = V := fun h e => by
            refine insC_same (by omega) ?_
            simp only [← e]; exact h
          have nw : ¬ sameC (V[j]'hjl) A → j = aheadC A V → insC A V = V.take j ++ A :: V.drop j := fun h e => by
            have := insC_new (c := A) (L := V) (fun h2 => by simp only [← e]; exact h)
            rw [← e] at this; exact this
          have qc := hide (fun w => l4Cmp_any (V[j]'hjl).t (V[j]'hjl).o A.t A.o w)
          have hcl := cmpS_lt (V[j]'hjl).t (V[j]'hjl).o A.t A.o
          have HP := hide (And.intro at1 (And.intro at2 (And.intro sm nw)))
          clear hr2 R1 lt1 at1 at2 sm nw
          unfold ltC sameC at HP
          generalize V[j] = P at p0 p1 qc hcl HP
          have ne : Nonempty (Kept wr) := ⟨⟨wr, Below.refl _ _⟩⟩
          have x0 := kept_cell zk p0
          have x1 := kept_cell zk p1
          have y0 := kept_cell zB b0
          have y1 := kept_cell zB b1
          have n0 : (0 : Int) ≤ (j : Int) := by omega
          have n1 : (j : Int) < (V.length : Int) := by omega
          by_cases hc : P.t < A.t ∨ (P.t = A.t ∧ P.o < A.o)
          · have hj2 := (unhide HP).2.1 hc
            have dc : decide (cmpS P.t P.o A.t A.o < 0) = true := by simpa using hcl.2 hc
            clear HP hcl
            generalize cmpS P.t P.o A.t A.o = Z at qc dc
            go_wp2_with fail
            refine wp_region_kept (by kernel_rfl) (by kernel_rfl) ?_
            repeat (first
              | go_big_quiet_step ((go_at_call 26; exact kept_call (unhide qc _)))
              | quiet_step ((go_at_call 26; exact kept_call (unhide qc _))))
            refine wpQuiet_nil ?_
            rintro _ ⟨q, rfl⟩
            go_wp2_with fail
            exact ⟨⟨j + 1, by omega, by go_num, hide (bTr (unhide hb) q.h)⟩, by simp [Go.RowKit.intOf]; omega⟩
          · have ej := (unhide HP).1 hc
            have dc : decide (cmpS P.t P.o A.t A.o < 0) = false := by simpa using fun h => hc (hcl.1 h)
            have HP2 := hide (And.intro ((unhide HP).2.2.1 · ej) ((unhide HP).2.2.2 · ej))
            have HEJ := hide ej
            clear HP hcl ej
            generalize cmpS P.t P.o A.t A.o = Z at qc dc
            go_wp2_with fail
            refine wp_region_kept (by kernel_rfl) (by kernel_rfl) ?_
            repeat (first
              | go_big_quiet_step ((go_at_call 26; exact kept_call (unhide qc _)))
              | quiet_step ((go_at_call 26; exact kept_call (unhide qc _))))
            refine wpQuiet_nil ?_
            rintro _ ⟨q, rfl⟩
            clear ne x0 x1 y0 y1
            obtain ⟨w3, hb3⟩ := q
            have d0 := cellB hb3 zk p0
            have d1 := cellB hb3 zk p1
            have e0 := cellB hb3 zB b0
            have e1 := cellB hb3 zB b1
            have B3 := hide (bTr (unhide hb) hb3)
            clear p0 p1 b0 b1
            by_cases hsm : P.t = A.t ∧ P.o = A.o
            · have t1 : (P.t == A.t) = true := by simpa using hsm.1
              have t2 : (P.o == A.o) = true := by simpa using hsm.2
              have eV := hide ((unhide HP2).1 hsm)
              clear HP2
              go_wp2_with fail
              go_region
              all_goals go_wp2_with fail
              all_goals exact ⟨⟨k + 1, by omega, by go_num, hide (by rw [unhide eP, unhide eV]; exact own_keep (unhide O1) (by repeat (first | exact unhide B3 | refine Below.drew ?_))), hide (bTr (unhide B1) (by repeat (first | exact unhide B3 | refine Below.drew ?_)))⟩, by simp [Go.RowKit.intOf]; omega⟩
            · have eV := hide ((unhide HP2).2 hsm)
              have ts : ((P.t == A.t) && (P.o == A.o)) = false := by
                cases h : ((P.t == A.t) && (P.o == A.o))
                · rfl
                · simp at h; exact absurd h hsm
              have hor : ¬ P.t = A.t ∨ (P.t = A.t ∧ ¬ P.o = A.o) := by omega
              clear HP2
              rcases hor with h1 | ⟨h1, h2⟩
              · have t1 : (P.t == A.t) = false := by simpa using h1
                go_wp2_with fail
                go_region
                all_goals go_wp2_with fail
                refine wp_at (R := fun w' => Below W1.heap.size W1 w') (by repeat (first | exact unhide B3 | refine Below.drew ?_)) ?_
                intro w4 hb4
                have O4 := hide (own_keep (unhide O1) hb4)
                have R4 := (unhide RB).keep hb4
                have B4 := hide (bTr (unhide B1) hb4)
                obtain ⟨gN, cur, eg, hrow, _, hcp, hcm, htk, hbg⟩ : ∃ gN cur, (⟨g2, off2, none⟩ : Addr) = ⟨gN, 0, none⟩ ∧ RowIs w4 gN cur 46 ∧ V.length = V.length ∧ V.length ≤ cp ∧ cp ≤ maxLen ∧ cur.toList.take (V.length * 9) = dcsV V ∧ w.heap.size ≤ gN := by
                  rcases own_form (unhide O4) with ⟨h, _⟩ | ⟨gN, cur, h1, h2⟩
                  · cases h
                  · exact ⟨gN, cur, by simpa using h1, h2⟩
                cases eg
                have hgl := hrow.lt
                have hbl := R4.lt
                have RS4 := hide (show RS W1 w4 g2 cur bx A w4 from ⟨hrow, R4, hb4, Nat.le_refl _⟩)
                have N1 := hide (fun W (h : RowIs W g2 cur 46) => (cur_news h htk j).1)
                have N2 := hide (fun W (h : RowIs W g2 cur 46) => (cur_news h htk j).2)
                have hz14 := hide hb4.size
                unfold maxLen at hcm
                clear R4 hrow htk hb4 d0 d1 e0 e1 B3 hb3 zk zB dc HSL RB
                have k1 : (j : Int) ≤ (cp : Int) := by omega
                have k2 : (j : Int) ≤ (V.length : Int) := by omega
                obtain ⟨AD, k3, hAD⟩ : ∃ AD, (if cp = j then some (⟨g2, 0, none⟩ : Addr) else some ⟨g2, j * 9, none⟩) = some AD ∧ (cp = j ∨ AD = ⟨g2, j * 9, none⟩) := by
                  by_cases h : cp = j
                  · exact ⟨_, by rw [if_pos h], .inl h⟩
                  · exact ⟨_, by rw [if_neg h], .inr rfl⟩
                have N3 := hide (show ∀ W, RowIs W g2 cur 46 → ∀ ad, some AD = some ad → ∀ i u, (dcsV (V.drop j))[i]? = some u → W.cell? (ad.add i) = some u from fun W h ad e i u hu => by
                  cases e
                  rcases hAD with h1 | h1
                  · have : V.drop j = [] := List.drop_eq_nil_of_le (by omega)
                    rw [this] at hu
                    cases hu
                  · rw [h1]; exact unhide N2 W h i u hu)
                clear hAD
                obtain ⟨f0, f1, f2, f3, f4, f5, f6, f7, f8⟩ := (unhide RS4).cells
                have L1 : (dcsV (V.take j)).length = j * 9 := by rw [dcsV_len, List.length_take]; omega
                have L2 : (dcsV (V.drop j)).length = (V.length - j) * 9 := by rw [dcsV_len, List.length_drop]
                have HL1 := hide L1
                have HL2 := hide L2
                clear L1 L2
                go_region_held3 (fun w' => w'.cell? ⟨bx, 0, none⟩ = some (.int .i64 A.t) ∧ w'.cell? ⟨bx, 1, none⟩ = some (.int .i64 A.o) ∧ w'.cell? ⟨bx, 2, none⟩ = some (.int .i64 A.k) ∧ w'.cell? ⟨bx, 3, none⟩ = some (.int .i64 A.u) ∧ w'.cell? ⟨bx, 4, none⟩ = some (.int .i64 A.p) ∧ w'.cell? ⟨bx, 5, none⟩ = some (.string A.pa) ∧ w'.cell? ⟨bx, 6, none⟩ = some (.string A.pt) ∧ w'.cell? ⟨bx, 7, none⟩ = some (.string A.a) ∧ w'.cell? ⟨bx, 8, none⟩ = some (.string A.x))
                  (first
                    | exact (unhide RS4).cells
                    | exact (unhide RS4).drew.cells
                    | exact (((unhide RS4).drew).alloc _).cells
                    | exact (unhide RS5).cells
                    | exact ((unhide RS5).alloc _).cells
                    | exact (unhide RS6).cells
                    | exact (unhide RS7).cells)
                  (first
                    | (refine step_app _ (by rfl) (.tmp 50) (.tmp 53) _ (by rfl) w4.heap.size 46 i0 _ 9 104 Try.underlying24 hi hz0 hz1 hz2 rfl (by decide) (.slice none 0 0) 0 [] (by rfl) (World.ownsRow_nil _ _ _ _) (some ⟨g2, 0, none⟩) j cp (dcsV (V.take j)) (by rfl) (by intro h; cases h) (unhide HL1) (by intro ad e; cases e; exact unhide N1 _ (by first | exact (unhide RS4).row | exact ((unhide RS4).alloc _).row)) (dcsV_one _) (by unfold maxLen; omega) (by omega) (by simp) ?_; intro v1 w5 hown1 hgrow1; have RS5 := hide (show RS W1 w4 g2 cur bx A w5 from by first | exact RS.grow (unhide RS4) (unhide hz14) hgl hbl hgrow1 (fun k h => by simp [Value.ownBlock] at h) | exact RS.grow (unhide RS4).drew (unhide hz14) hgl hbl hgrow1 (fun k h => by simp [Value.ownBlock] at h) | exact RS.grow ((unhide RS4).drew.alloc _) (unhide hz14) hgl hbl hgrow1 (fun k h => by simp [Value.ownBlock] at h)))
                    | (refine step_app _ (by rfl) (.tmp 54) (.tmp 56) _ (by rfl) w4.heap.size 46 i0 _ 9 104 Try.underlying24 hi hz0 hz1 hz2 rfl (by decide) v1 (0 + j) ([] ++ dcsV (V.take j)) (by rfl) (hown1.alloc _) (some ⟨w5.heap.size, 0, none⟩) 1 1 (dcL A) (by rfl) (by intro h; cases h) rfl (by intro ad e; cases e; exact cell_new_at _ _ rfl _ _ _ rfl) (dcL_one A) (by unfold maxLen; omega) (by omega) (by have := (unhide RS5).size; simp; omega) ?_; intro v2 w6 hown2 hgrow2; have RS6 := hide (RS.grow ((unhide RS5).alloc _) (unhide hz14) hgl hbl hgrow2 (fun k h => (hown1.lt k h).1)))
                    | (refine step_app _ (by rfl) (.tmp 54) (.tmp 56) _ (by rfl) w4.heap.size 46 i0 _ 9 104 Try.underlying24 hi hz0 hz1 hz2 rfl (by decide) v1 (0 + j) ([] ++ dcsV (V.take j)) (by rfl) hown1 (some ⟨w4.heap.size, 0, none⟩) 1 1 (dcL A) (by rfl) (by intro h; cases h) rfl (by intro ad e; cases e; exact row_news (row_grown (RowIs.new w4.drew (acA A) 46) hgrow1 (by simp [Value.ownBlock])) _ rfl) (dcL_one A) (by unfold maxLen; omega) (by omega) (unhide RS5).size ?_; intro v2 w6 hown2 hgrow2; have RS6 := hide (RS.grow (unhide RS5) (unhide hz14) hgl hbl hgrow2 (fun k h => (hown1.lt k h).1)))
                    | (refine step_app _ (by rfl) (.tmp 57) (.tmp 60) _ (by rfl) w4.heap.size 46 i0 _ 9 104 Try.underlying24 hi hz0 hz1 hz2 rfl (by decide) v2 (0 + j + 1) (([] ++ dcsV (V.take j)) ++ dcL A) (by rfl) hown2 (some AD) (V.length - j) (cp - j) (dcsV (V.drop j)) (by rfl) (by intro h; cases h) (unhide HL2) (unhide N3 _ (unhide RS6).row) (dcsV_one _) (by unfold maxLen; omega) (by omega) (unhide RS6).size ?_; intro v3 w7 hown3 hgrow3; have RS7 := hide (RS.grow (unhide RS6) (unhide hz14) hgl hbl hgrow3 (fun k h => (hown2.lt k h).1)))
                    | (trace_state; fail))
                all_goals
                  have G9 := hide (own_ins (w := w) (unhide eV) (by omega) hown3 (unhide B4).size)
                  have B9 := hide (bTr (unhide B1) (unhide RS7).bel)
                  clear hown1 hown2 hown3 hgrow1 hgrow2 hgrow3 RS4 RS5 RS6 RS7 f0 f1 f2 f3 f4 f5 f6 f7 f8 k3 N1 N2 N3
                  go_wp2_with fail
                  exact ⟨⟨k + 1, by omega, by go_num, hide (by rw [unhide eP]; exact unhide G9), B9⟩, by simp [Go.RowKit.intOf]; omega⟩
              · have t1 : (P.t == A.t) = true := by simpa using h1
                have t2 : (P.o == A.o) = false := by simpa using h2
                go_wp2_with fail
                go_region
                all_goals go_wp2_with fail
                refine wp_at (R := fun w' => Below W1.heap.size W1 w') (by repeat (first | exact unhide B3 | refine Below.drew ?_)) ?_
                intro w4 hb4
                have O4 := hide (own_keep (unhide O1) hb4)
                have R4 := (unhide RB).keep hb4
                have B4 := hide (bTr (unhide B1) hb4)
                obtain ⟨gN, cur, eg, hrow, _, hcp, hcm, htk, hbg⟩ : ∃ gN cur, (⟨g2, off2, none⟩ : Addr) = ⟨gN, 0, none⟩ ∧ RowIs w4 gN cur 46 ∧ V.length = V.length ∧ V.length ≤ cp ∧ cp ≤ maxLen ∧ cur.toList.take (V.length * 9) = dcsV V ∧ w.heap.size ≤ gN := by
                  rcases own_form (unhide O4) with ⟨h, _⟩ | ⟨gN, cur, h1, h2⟩
                  · cases h
                  · exact ⟨gN, cur, by simpa using h1, h2⟩
                cases eg
                have hgl := hrow.lt
                have hbl := R4.lt
                have RS4 := hide (show RS W1 w4 g2 cur bx A w4 from ⟨hrow, R4, hb4, Nat.le_refl _⟩)
                have N1 := hide (fun W (h : RowIs W g2 cur 46) => (cur_news h htk j).1)
                have N2 := hide (fun W (h : RowIs W g2 cur 46) => (cur_news h htk j).2)
                have hz14 := hide hb4.size
                unfold maxLen at hcm
                clear R4 hrow htk hb4 d0 d1 e0 e1 B3 hb3 zk zB dc HSL RB
                have k1 : (j : Int) ≤ (cp : Int) := by omega
                have k2 : (j : Int) ≤ (V.length : Int) := by omega
                obtain ⟨AD, k3, hAD⟩ : ∃ AD, (if cp = j then some (⟨g2, 0, none⟩ : Addr) else some ⟨g2, j * 9, none⟩) = some AD ∧ (cp = j ∨ AD = ⟨g2, j * 9, none⟩) := by
                  by_cases h : cp = j
                  · exact ⟨_, by rw [if_pos h], .inl h⟩
                  · exact ⟨_, by rw [if_neg h], .inr rfl⟩
                have N3 := hide (show ∀ W, RowIs W g2 cur 46 → ∀ ad, some AD = some ad → ∀ i u, (dcsV (V.drop j))[i]? = some u → W.cell? (ad.add i) = some u from fun W h ad e i u hu => by
                  cases e
                  rcases hAD with h1 | h1
                  · have : V.drop j = [] := List.drop_eq_nil_of_le (by omega)
                    rw [this] at hu
                    cases hu
                  · rw [h1]; exact unhide N2 W h i u hu)
                clear hAD
                obtain ⟨f0, f1, f2, f3, f4, f5, f6, f7, f8⟩ := (unhide RS4).cells
                have L1 : (dcsV (V.take j)).length = j * 9 := by rw [dcsV_len, List.length_take]; omega
                have L2 : (dcsV (V.drop j)).length = (V.length - j) * 9 := by rw [dcsV_len, List.length_drop]
                have HL1 := hide L1
                have HL2 := hide L2
                clear L1 L2
                go_region_held3 (fun w' => w'.cell? ⟨bx, 0, none⟩ = some (.int .i64 A.t) ∧ w'.cell? ⟨bx, 1, none⟩ = some (.int .i64 A.o) ∧ w'.cell? ⟨bx, 2, none⟩ = some (.int .i64 A.k) ∧ w'.cell? ⟨bx, 3, none⟩ = some (.int .i64 A.u) ∧ w'.cell? ⟨bx, 4, none⟩ = some (.int .i64 A.p) ∧ w'.cell? ⟨bx, 5, none⟩ = some (.string A.pa) ∧ w'.cell? ⟨bx, 6, none⟩ = some (.string A.pt) ∧ w'.cell? ⟨bx, 7, none⟩ = some (.string A.a) ∧ w'.cell? ⟨bx, 8, none⟩ = some (.string A.x))
                  (first
                    | exact (unhide RS4).cells
                    | exact (unhide RS4).drew.cells
                    | exact (((unhide RS4).drew).alloc _).cells
                    | exact (unhide RS5).cells
                    | exact ((unhide RS5).alloc _).cells
                    | exact (unhide RS6).cells
                    | exact (unhide RS7).cells)
                  (first
                    | (refine step_app _ (by rfl) (.tmp 50) (.tmp 53) _ (by rfl) w4.heap.size 46 i0 _ 9 104 Try.underlying24 hi hz0 hz1 hz2 rfl (by decide) (.slice none 0 0) 0 [] (by rfl) (World.ownsRow_nil _ _ _ _) (some ⟨g2, 0, none⟩) j cp (dcsV (V.take j)) (by rfl) (by intro h; cases h) (unhide HL1) (by intro ad e; cases e; exact unhide N1 _ (by first | exact (unhide RS4).row | exact ((unhide RS4).alloc _).row)) (dcsV_one _) (by unfold maxLen; omega) (by omega) (by simp) ?_; intro v1 w5 hown1 hgrow1; have RS5 := hide (show RS W1 w4 g2 cur bx A w5 from by first | exact RS.grow (unhide RS4) (unhide hz14) hgl hbl hgrow1 (fun k h => by simp [Value.ownBlock] at h) | exact RS.grow (unhide RS4).drew (unhide hz14) hgl hbl hgrow1 (fun k h => by simp [Value.ownBlock] at h) | exact RS.grow ((unhide RS4).drew.alloc _) (unhide hz14) hgl hbl hgrow1 (fun k h => by simp [Value.ownBlock] at h)))
                    | (refine step_app _ (by rfl) (.tmp 54) (.tmp 56) _ (by rfl) w4.heap.size 46 i0 _ 9 104 Try.underlying24 hi hz0 hz1 hz2 rfl (by decide) v1 (0 + j) ([] ++ dcsV (V.take j)) (by rfl) (hown1.alloc _) (some ⟨w5.heap.size, 0, none⟩) 1 1 (dcL A) (by rfl) (by intro h; cases h) rfl (by intro ad e; cases e; exact cell_new_at _ _ rfl _ _ _ rfl) (dcL_one A) (by unfold maxLen; omega) (by omega) (by have := (unhide RS5).size; simp; omega) ?_; intro v2 w6 hown2 hgrow2; have RS6 := hide (RS.grow ((unhide RS5).alloc _) (unhide hz14) hgl hbl hgrow2 (fun k h => (hown1.lt k h).1)))
                    | (refine step_app _ (by rfl) (.tmp 54) (.tmp 56) _ (by rfl) w4.heap.size 46 i0 _ 9 104 Try.underlying24 hi hz0 hz1 hz2 rfl (by decide) v1 (0 + j) ([] ++ dcsV (V.take j)) (by rfl) hown1 (some ⟨w4.heap.size, 0, none⟩) 1 1 (dcL A) (by rfl) (by intro h; cases h) rfl (by intro ad e; cases e; exact row_news (row_grown (RowIs.new w4.drew (acA A) 46) hgrow1 (by simp [Value.ownBlock])) _ rfl) (dcL_one A) (by unfold maxLen; omega) (by omega) (unhide RS5).size ?_; intro v2 w6 hown2 hgrow2; have RS6 := hide (RS.grow (unhide RS5) (unhide hz14) hgl hbl hgrow2 (fun k h => (hown1.lt k h).1)))
                    | (refine step_app _ (by rfl) (.tmp 57) (.tmp 60) _ (by rfl) w4.heap.size 46 i0 _ 9 104 Try.underlying24 hi hz0 hz1 hz2 rfl (by decide) v2 (0 + j + 1) (([] ++ dcsV (V.take j)) ++ dcL A) (by rfl) hown2 (some AD) (V.length - j) (cp - j) (dcsV (V.drop j)) (by rfl) (by intro h; cases h) (unhide HL2) (unhide N3 _ (unhide RS6).row) (dcsV_one _) (by unfold maxLen; omega) (by omega) (unhide RS6).size ?_; intro v3 w7 hown3 hgrow3; have RS7 := hide (RS.grow (unhide RS6) (unhide hz14) hgl hbl hgrow3 (fun k h => (hown2.lt k h).1)))
                    | (trace_state; fail))
                all_goals
                  have G9 := hide (own_ins (w := w) (unhide eV) (by omega) hown3 (unhide B4).size)
                  have B9 := hide (bTr (unhide B1) (unhide RS7).bel)
                  clear hown1 hown2 hown3 hgrow1 hgrow2 hgrow3 RS4 RS5 RS6 RS7 f0 f1 f2 f3 f4 f5 f6 f7 f8 k3 N1 N2 N3
                  go_wp2_with fail
                  exact ⟨⟨k + 1, by omega, by go_num, hide (by rw [unhide eP]; exact unhide G9), B9⟩, by simp [Go.RowKit.intOf]; omega⟩
        · have ej : j = V.length := by omega
          have eA : j = aheadC A V := by omega
          have eV := hide (show insC A V = V.take j ++ A :: V.drop j by
            have := insC_new (c := A) (L := V) (fun h2 => absurd h2 (by omega))
            rw [← eA] at this; exact this)
          have n1 : ¬ (j : Int) < (V.length : Int) := by omega
          have ne : Nonempty (Kept wr) := ⟨⟨wr, Below.refl _ _⟩⟩
          have HEA := hide eA
          have HEJ := hide ej
          clear eA ej
          go_wp2_with fail
          refine wp_region_kept (by kernel_rfl) (by kernel_rfl) ?_
          repeat (first
            | go_big_quiet_step (fail)
            | quiet_step (fail))
          refine wpQuiet_nil ?_
          rintro _ ⟨q, rfl⟩
          clear ne
          obtain ⟨w3, hb3⟩ := q
          have B3 := hide (bTr (unhide hb) hb3)
          go_wp2_with fail
          go_region
          all_goals go_wp2_with fail
          refine wp_at (R := fun w' => Below W1.heap.size W1 w') (by repeat (first | exact unhide B3 | refine Below.drew ?_)) ?_
          intro w4 hb4
          have O4 := hide (own_keep (unhide O1) hb4)
          have R4 := (unhide RB).keep hb4
          have B4 := hide (bTr (unhide B1) hb4)
          rcases own_form (unhide O4) with ⟨e1, _, e2, e3⟩ | ⟨g2, cur, e1, hrow, _, hcp, hcm, htk, hbg⟩
          · subst e1 e2 e3
            have ej0 : j = 0 := unhide HEJ
            subst ej0
            have hbl := R4.lt
            have RS4 := hide (show RS W1 w4 bx (acA A) bx A w4 from ⟨R4, R4, hb4, Nat.le_refl _⟩)
            have hz14 := hide hb4.size
            clear R4 hb4 B3 hb3 HSL RB
            obtain ⟨f0, f1, f2, f3, f4, f5, f6, f7, f8⟩ := (unhide RS4).cells
            go_region_held3 (fun w' => w'.cell? ⟨bx, 0, none⟩ = some (.int .i64 A.t) ∧ w'.cell? ⟨bx, 1, none⟩ = some (.int .i64 A.o) ∧ w'.cell? ⟨bx, 2, none⟩ = some (.int .i64 A.k) ∧ w'.cell? ⟨bx, 3, none⟩ = some (.int .i64 A.u) ∧ w'.cell? ⟨bx, 4, none⟩ = some (.int .i64 A.p) ∧ w'.cell? ⟨bx, 5, none⟩ = some (.string A.pa) ∧ w'.cell? ⟨bx, 6, none⟩ = some (.string A.pt) ∧ w'.cell? ⟨bx, 7, none⟩ = some (.string A.a) ∧ w'.cell? ⟨bx, 8, none⟩ = some (.string A.x))
              (first
                | exact (unhide RS4).cells
                | exact (unhide RS4).drew.cells
                | exact (((unhide RS4).drew).alloc _).cells
                | exact (unhide RS5).cells
                | exact ((unhide RS5).alloc _).cells
                | exact (unhide RS6).cells
                | exact (unhide RS7).cells)
              (first
                | (refine step_app _ (by rfl) (.tmp 50) (.tmp 53) _ (by rfl) w4.heap.size 46 i0 _ 9 104 Try.underlying24 hi hz0 hz1 hz2 rfl (by decide) (.slice none 0 0) 0 [] (by rfl) (World.ownsRow_nil _ _ _ _) none 0 0 [] (by rfl) (fun _ => ⟨rfl, rfl⟩) rfl (by intro ad e; cases e) (by simp) (by unfold maxLen; omega) (by omega) (by simp) ?_; intro v1 w5 hown1 hgrow1; have RS5 := hide (show RS W1 w4 bx (acA A) bx A w5 from by first | exact RS.grow (unhide RS4) (unhide hz14) hbl hbl hgrow1 (fun k h => by simp [Value.ownBlock] at h) | exact RS.grow (unhide RS4).drew (unhide hz14) hbl hbl hgrow1 (fun k h => by simp [Value.ownBlock] at h) | exact RS.grow ((unhide RS4).drew.alloc _) (unhide hz14) hbl hbl hgrow1 (fun k h => by simp [Value.ownBlock] at h)))
                | (refine step_app _ (by rfl) (.tmp 54) (.tmp 56) _ (by rfl) w4.heap.size 46 i0 _ 9 104 Try.underlying24 hi hz0 hz1 hz2 rfl (by decide) v1 (0 + 0) ([] ++ []) (by rfl) (hown1.alloc _) (some ⟨w5.heap.size, 0, none⟩) 1 1 (dcL A) (by rfl) (by intro h; cases h) rfl (by intro ad e; cases e; exact cell_new_at _ _ rfl _ _ _ rfl) (dcL_one A) (by unfold maxLen; omega) (by omega) (by have := (unhide RS5).size; simp; omega) ?_; intro v2 w6 hown2 hgrow2; have RS6 := hide (RS.grow ((unhide RS5).alloc _) (unhide hz14) hbl hbl hgrow2 (fun k h => (hown1.lt k h).1)))
                | (refine step_app _ (by rfl) (.tmp 54) (.tmp 56) _ (by rfl) w4.heap.size 46 i0 _ 9 104 Try.underlying24 hi hz0 hz1 hz2 rfl (by decide) v1 (0 + 0) ([] ++ []) (by rfl) hown1 (some ⟨w4.heap.size, 0, none⟩) 1 1 (dcL A) (by rfl) (by intro h; cases h) rfl (by intro ad e; cases e; exact row_news (row_grown (RowIs.new w4.drew (acA A) 46) hgrow1 (by simp [Value.ownBlock])) _ rfl) (dcL_one A) (by unfold maxLen; omega) (by omega) (unhide RS5).size ?_; intro v2 w6 hown2 hgrow2; have RS6 := hide (RS.grow (unhide RS5) (unhide hz14) hbl hbl hgrow2 (fun k h => (hown1.lt k h).1)))
                | (refine step_app _ (by rfl) (.tmp 57) (.tmp 60) _ (by rfl) w4.heap.size 46 i0 _ 9 104 Try.underlying24 hi hz0 hz1 hz2 rfl (by decide) v2 (0 + 0 + 1) (([] ++ []) ++ dcL A) (by rfl) hown2 none 0 0 [] (by rfl) (fun _ => ⟨rfl, rfl⟩) rfl (by intro ad e; cases e) (by simp) (by unfold maxLen; omega) (by omega) (unhide RS6).size ?_; intro v3 w7 hown3 hgrow3; have RS7 := hide (RS.grow (unhide RS6) (unhide hz14) hbl hbl hgrow3 (fun k h => (hown2.lt k h).1)))
                | (trace_state; fail))
            all_goals
              have G9 := hide (own_ins (w := w) (unhide eV) (Nat.zero_le _) hown3 (unhide B4).size)
              have B9 := hide (bTr (unhide B1) (unhide RS7).bel)
              clear hown1 hown2 hown3 hgrow1 hgrow2 hgrow3 RS4 RS5 RS6 RS7 f0 f1 f2 f3 f4 f5 f6 f7 f8
              go_wp2_with fail
              exact ⟨⟨k + 1, by omega, by go_num, hide (by rw [unhide eP]; exact unhide G9), B9⟩, by simp [Go.RowKit.intOf]; omega⟩
          · subst e1
            have hgl := hrow.lt
            have hbl := R4.lt
            have RS4 := hide (show RS W1 w4 g2 cur bx A w4 from ⟨hrow, R4, hb4, Nat.le_refl _⟩)
            have N1 := hide (fun W (h : RowIs W g2 cur 46) => (cur_news h htk j).1)
            have N2 := hide (fun W (h : RowIs W g2 cur 46) => (cur_news h htk j).2)
            have hz14 := hide hb4.size
            unfold maxLen at hcm
            clear R4 hrow htk hb4 B3 hb3 HSL RB
            have hjV : j ≤ V.length := by have := unhide HEJ; omega
            have k1 : (j : Int) ≤ (cp : Int) := by omega
            have k2 : (j : Int) ≤ (V.length : Int) := by have := unhide HEJ; omega
            obtain ⟨AD, k3, hAD⟩ : ∃ AD, (if cp = j then some (⟨g2, 0, none⟩ : Addr) else some ⟨g2, j * 9, none⟩) = some AD ∧ (cp = j ∨ AD = ⟨g2, j * 9, none⟩) := by
              by_cases h : cp = j
              · exact ⟨_, by rw [if_pos h], .inl h⟩
              · exact ⟨_, by rw [if_neg h], .inr rfl⟩
            have N3 := hide (show ∀ W, RowIs W g2 cur 46 → ∀ ad, some AD = some ad → ∀ i u, (dcsV (V.drop j))[i]? = some u → W.cell? (ad.add i) = some u from fun W h ad e i u hu => by
              cases e
              rcases hAD with h1 | h1
              · have : V.drop j = [] := List.drop_eq_nil_of_le (by omega)
                rw [this] at hu
                cases hu
              · rw [h1]; exact unhide N2 W h i u hu)
            clear hAD
            obtain ⟨f0, f1, f2, f3, f4, f5, f6, f7, f8⟩ := (unhide RS4).cells
            have L1 : (dcsV (V.take j)).length = j * 9 := by rw [dcsV_len, List.length_take]; omega
            have L2 : (dcsV (V.drop j)).length = (V.length - j) * 9 := by rw [dcsV_len, List.length_drop]
            have HL1 := hide L1
            have HL2 := hide L2
            clear L1 L2
            go_region_held3 (fun w' => w'.cell? ⟨bx, 0, none⟩ = some (.int .i64 A.t) ∧ w'.cell? ⟨bx, 1, none⟩ = some (.int .i64 A.o) ∧ w'.cell? ⟨bx, 2, none⟩ = some (.int .i64 A.k) ∧ w'.cell? ⟨bx, 3, none⟩ = some (.int .i64 A.u) ∧ w'.cell? ⟨bx, 4, none⟩ = some (.int .i64 A.p) ∧ w'.cell? ⟨bx, 5, none⟩ = some (.string A.pa) ∧ w'.cell? ⟨bx, 6, none⟩ = some (.string A.pt) ∧ w'.cell? ⟨bx, 7, none⟩ = some (.string A.a) ∧ w'.cell? ⟨bx, 8, none⟩ = some (.string A.x))
              (first
                | exact (unhide RS4).cells
                | exact (unhide RS4).drew.cells
                | exact (((unhide RS4).drew).alloc _).cells
                | exact (unhide RS5).cells
                | exact ((unhide RS5).alloc _).cells
                | exact (unhide RS6).cells
                | exact (unhide RS7).cells)
              (first
                | (refine step_app _ (by rfl) (.tmp 50) (.tmp 53) _ (by rfl) w4.heap.size 46 i0 _ 9 104 Try.underlying24 hi hz0 hz1 hz2 rfl (by decide) (.slice none 0 0) 0 [] (by rfl) (World.ownsRow_nil _ _ _ _) (some ⟨g2, 0, none⟩) j cp (dcsV (V.take j)) (by rfl) (by intro h; cases h) (unhide HL1) (by intro ad e; cases e; exact unhide N1 _ (by first | exact (unhide RS4).row | exact ((unhide RS4).alloc _).row)) (dcsV_one _) (by unfold maxLen; omega) (by omega) (by simp) ?_; intro v1 w5 hown1 hgrow1; have RS5 := hide (show RS W1 w4 g2 cur bx A w5 from by first | exact RS.grow (unhide RS4) (unhide hz14) hgl hbl hgrow1 (fun k h => by simp [Value.ownBlock] at h) | exact RS.grow (unhide RS4).drew (unhide hz14) hgl hbl hgrow1 (fun k h => by simp [Value.ownBlock] at h) | exact RS.grow ((unhide RS4).drew.alloc _) (unhide hz14) hgl hbl hgrow1 (fun k h => by simp [Value.ownBlock] at h)))
                | (refine step_app _ (by rfl) (.tmp 54) (.tmp 56) _ (by rfl) w4.heap.size 46 i0 _ 9 104 Try.underlying24 hi hz0 hz1 hz2 rfl (by decide) v1 (0 + j) ([] ++ dcsV (V.take j)) (by rfl) (hown1.alloc _) (some ⟨w5.heap.size, 0, none⟩) 1 1 (dcL A) (by rfl) (by intro h; cases h) rfl (by intro ad e; cases e; exact cell_new_at _ _ rfl _ _ _ rfl) (dcL_one A) (by unfold maxLen; omega) (by omega) (by have := (unhide RS5).size; simp; omega) ?_; intro v2 w6 hown2 hgrow2; have RS6 := hide (RS.grow ((unhide RS5).alloc _) (unhide hz14) hgl hbl hgrow2 (fun k h => (hown1.lt k h).1)))
                | (refine step_app _ (by rfl) (.tmp 54) (.tmp 56) _ (by rfl) w4.heap.size 46 i0 _ 9 104 Try.underlying24 hi hz0 hz1 hz2 rfl (by decide) v1 (0 + j) ([] ++ dcsV (V.take j)) (by rfl) hown1 (some ⟨w4.heap.size, 0, none⟩) 1 1 (dcL A) (by rfl) (by intro h; cases h) rfl (by intro ad e; cases e; exact row_news (row_grown (RowIs.new w4.drew (acA A) 46) hgrow1 (by simp [Value.ownBlock])) _ rfl) (dcL_one A) (by unfold maxLen; omega) (by omega) (unhide RS5).size ?_; intro v2 w6 hown2 hgrow2; have RS6 := hide (RS.grow (unhide RS5) (unhide hz14) hgl hbl hgrow2 (fun k h => (hown1.lt k h).1)))
                | (refine step_app _ (by rfl) (.tmp 57) (.tmp 60) _ (by rfl) w4.heap.size 46 i0 _ 9 104 Try.underlying24 hi hz0 hz1 hz2 rfl (by decide) v2 (0 + j + 1) (([] ++ dcsV (V.take j)) ++ dcL A) (by rfl) hown2 (some AD) (V.length - j) (cp - j) (dcsV (V.drop j)) (by rfl) (by intro h; cases h) (unhide HL2) (unhide N3 _ (unhide RS6).row) (dcsV_one _) (by unfold maxLen; omega) (by omega) (unhide RS6).size ?_; intro v3 w7 hown3 hgrow3; have RS7 := hide (RS.grow (unhide RS6) (unhide hz14) hgl hbl hgrow3 (fun k h => (hown2.lt k h).1)))
                | (trace_state; fail))
            all_goals
              have G9 := hide (own_ins (w := w) (unhide eV) (by omega) hown3 (unhide B4).size)
              have B9 := hide (bTr (unhide B1) (unhide RS7).bel)
              clear hown1 hown2 hown3 hgrow1 hgrow2 hgrow3 RS4 RS5 RS6 RS7 f0 f1 f2 f3 f4 f5 f6 f7 f8 k3 N1 N2 N3
              go_wp2_with fail
              exact ⟨⟨k + 1, by omega, by go_num, hide (by rw [unhide eP]; exact unhide G9), B9⟩, by simp [Go.RowKit.intOf]; omega⟩
    · have e : k = l'.length := by rw [← unhide hll']; omega
      have O9 := hide (show wr.ownsRow w.heap.size 46 9 _ (recv l l').length (dcsV (recv l l')) by have := unhide hO; rw [e, List.take_length] at this; exact this)
      clear e
      go_wp2_with fail
      go_ret
      exact ⟨⟨_, rfl, unhide O9⟩, unhide hB⟩

end Go.Proofs.Ytpdnimchmgbijaa
