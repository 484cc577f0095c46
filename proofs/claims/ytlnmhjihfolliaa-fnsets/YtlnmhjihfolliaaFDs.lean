/- spec.DrawSetOf. -/
import Derived.Test.YtlnmhjihfolliaaFOd
import Derived.Test.YtlnmhjihfolliaaSCm
namespace Go.Proofs.Ytlnmhjihfolliaa.V
open Go.RowKit
set_option maxRecDepth 20000

/-- The drawer's state: what was drawn, the cursor in the block behind w. -/
structure DA (w : World) (m : Nat) (v : Value) (l : List AtomT) (x : World) : Prop where
  o : x.ownsRow (w.heap.size + 1) 26 4 v l.length (atomsV l)
  c : CurOk x w.heap.size m
  t : Below w.heap.size w x
  k : ∀ q ∈ l, AtomT.Ok q
theorem own_butA {w w' : World} {b base n e size : Nat} {v : Value} {xs : List Value} (h : w.ownsRow base e size v n xs) (hb : But b w w') (hlt : b < base) : w'.ownsRow base e size v n xs := by
  refine ⟨h.1, h.2.imp_right ?_⟩
  rintro ⟨g, cap, cur, e', h1, hh, r⟩
  have hl : g < w.heap.size := (Array.getElem?_eq_some_iff.1 hh).1
  exact ⟨g, cap, cur, e', h1, by rw [hb.block g hl (by omega)]; exact hh, r⟩
theorem DA.step {w x y : World} {m m' : Nat} {v : Value} {l : List AtomT} (h : DA w m v l x) (hc : CurOk y w.heap.size m') (hb : But w.heap.size x y) : DA w m' v l y :=
  ⟨own_butA h.o hb (Nat.lt_succ_self _), hc, h.t.trans (hb.below (Nat.le_refl _) h.t.size), h.k⟩
theorem DA.mono {w x : World} {m m' : Nat} {v : Value} {l : List AtomT} (h : DA w m v l x) (hm : m ≤ m') : DA w m' v l x := ⟨h.o, h.c.mono hm, h.t, h.k⟩
theorem DA.al {w x : World} {m : Nat} {v : Value} {l : List AtomT} (h : DA w m v l x) (o : Obj) : DA w m v l (x.alloc o) := h.step (h.c.al o) (But.of (bAl (Below.refl _ _) o))
theorem DA.app {w x w5 : World} {m : Nat} {v v5 : Value} {l : List AtomT} {A : AtomT} (h : DA w m v l x) (o : Obj) (hg : (x.alloc o).grownBy w5 v.ownBlock) (hown : w5.ownsRow (w.heap.size + 1) 26 4 v5 (l.length + 1) (atomsV l ++ cellsA A)) (hA : A.Ok) : DA w m v5 (l ++ [A]) w5 := by
  have hlt := h.c.lt
  have hb : Below (w.heap.size + 1) (x.alloc o) w5 := (Below.refl _ _).grown hg (by simp; omega) (fun j hj => (h.o.lt j hj).1)
  refine ⟨by rw [List.length_append, atomsV_snoc]; exact hown, (h.c.al o).keepB hb (Nat.lt_succ_self _), (bAl h.t o).grown hg (by have := h.t.size; simp; omega) (fun j hj => by have := (h.o.lt j hj).1; omega), fun q hq => ?_⟩
  rcases List.mem_append.1 hq with hq | hq
  · exact h.k q hq
  · obtain rfl : q = A := by simpa using hq
    exact hA
def slLen : Value → Nat
  | .slice _ n _ => n
  | _ => 0
theorem info_atomD : (Try.prog.info? 26).map (fun i => (i.zero, i.size, i.bytes)) = some (some (.agg #[.int .i64 0, .int .i64 0, .string ByteArray.empty, .string ByteArray.empty]), 4, 48) := by kernel_rfl
set_option maxHeartbeats 4000000 in
theorem drawSetOf_any (a : Option Addr) (len cap : Nat) (w : World) (hcode : CodeAt w w.heap.size a len) :
    Calls Try.prog 4 #[.slice a len cap] w fun e w' => (∃ v l, e = .returned v ∧ w'.ownsRow (w.heap.size + 1) 26 4 v l.length (atomsV l) ∧ l.length ≤ 60 ∧ ∀ q ∈ l, AtomT.Ok q) ∧ Below w.heap.size w w' := by
  obtain ⟨i0, hi, hz0, hz1, hz2⟩ := info_parts info_atomD
  have E0 : Hid (DA w 0 (.slice none 0 0) [] (w.alloc (.cells #[.slice a len cap, .int .i64 0, .int .u64 0] 37))) := hide ⟨World.ownsRow_nil _ _ _ _, cur_new hcode cap, bAl (Below.refl _ _) _, by simp⟩
  clear hcode
  go_enter Try.func4, Try.ntmps4
  go_wp2_with fail
  refine (pick_any w.heap.size 0 8 _ (by omega) (by omega) (by omega) (unhide E0).c).mono ?_
  rintro e w1 ⟨⟨r, r0, r1, rfl⟩, hc1, hb1⟩
  have E1 := hide ((unhide E0).step hc1 hb1)
  obtain ⟨kr, rfl⟩ : ∃ k : Nat, r = k := ⟨r.toNat, by omega⟩
  clear hc1 hb1 E0
  go_wp2_with fail
  go_loopw [4, 5] (fun v n wr => ∃ (k m : Nat) (L : List AtomT), k ≤ 7 ∧ n = .int .i64 k ∧ m ≤ 2 + (7 - k) * 50 ∧ L.length ≤ (7 - k) * 2 ∧ Hid (DA w m v L wr)) (fun _ n _ => (intOf n).toNat)
  case atStart => exact ⟨kr, 2, [], by omega, rfl, by omega, by simp, E1⟩
  case round =>
    clear E1
    obtain ⟨k, m, L, hk, rfl, hm, hL, hD⟩ := hrel
    by_cases hpos : 0 < k
    · have ip : (0 : Int) < (k : Int) := by omega
      go_wp2_with fail
      refine (atom_any w.heap.size m _ (by omega) (unhide hD).c).mono ?_
      rintro e w2 ⟨⟨x, n, t, y, n8, n9, tz, yz, rfl⟩, hc2, hb2⟩
      have E2 := hide ((unhide hD).step hc2 hb2)
      have OA : AtomT.Ok ⟨x, n, t, y⟩ := ⟨n8, n9, by unfold maxLen; exact Nat.le_trans tz (by omega), by unfold maxLen; exact Nat.le_trans yz (by omega)⟩
      have HOA := hide OA
      clear hc2 hb2 hD n8 n9 tz yz OA
      obtain ⟨a3, cap3, e3⟩ := own_sl (unhide E2).o
      subst e3
      have t2 := hide (cell_four_new w2 (cellsA (⟨x, n, t, y⟩ : AtomT)) 26)
      have T3 := hide (show ∀ u ∈ cellsA (⟨x, n, t, y⟩ : AtomT), u.oneCell' = true from fun u hu => by simp [cellsA] at hu; rcases hu with rfl | rfl | rfl | rfl <;> rfl)
      have t5 : (L.length + 1) * 48 ≤ 140737488355328 := by omega
      have T4 := hide (show w.heap.size + 1 ≤ (w2.alloc (.cells (cellsA (⟨x, n, t, y⟩ : AtomT)).toArray 26)).heap.size by have := (unhide E2).c.lt; simp; omega)
      go_wp2_with (at_builtin; refine wpList_append_own_at _ rfl _ _ 23 rfl (w.heap.size + 1) 26 i0 _ 4 48 Try.underlying23 hi hz0 hz1 hz2 rfl (by decide) _ _ _ rfl ((unhide E2).o.alloc _) ⟨_, 0, none⟩ 1 1 (cellsA (⟨x, n, t, y⟩ : AtomT)) rfl rfl (unhide t2) (unhide T3) (by unfold maxLen; omega) t5 (unhide T4) ?_; intro v5 w5 hown5 hgrow5 _ hat5; have F5 := hide ((unhide E2).app _ hgrow5 hown5 (unhide HOA)); clear hown5 hgrow5 hat5)
      obtain ⟨L', hL'⟩ : ∃ L', L' = L ++ [(⟨x, n, t, y⟩ : AtomT)] := ⟨_, rfl⟩
      have hl' : L'.length ≤ L.length + 1 := by rw [hL']; simp
      have hl0 : 0 < L'.length := by rw [hL']; simp
      rw [← hL'] at F5
      clear hL' t2 T3 T4 E2
      refine (one_any w.heap.size (m + 40) 3 _ (by omega) (by omega) (by omega) (unhide F5).c).mono ?_
      rintro e w6 ⟨⟨bb, rfl⟩, hc6, hb6⟩
      have E6 := hide ((unhide F5).step hc6 hb6)
      clear hc6 hb6 F5
      obtain ⟨a6, cap6, e6⟩ := own_sl (unhide E6).o
      subst e6
      cases bb
      · go_wp2_with fail
        exact ⟨⟨k - 1, m + 40 + 2, L', by omega, by go_num, by omega, by omega, E6⟩, by simp [intOf]; omega⟩
      · go_wp2_with fail
        refine (pick_any w.heap.size (m + 40 + 2) (L'.length : Int) _ (by omega) (by omega) (by omega) (unhide E6).c).mono ?_
        rintro e w7 ⟨⟨q, q0, q1, rfl⟩, hc7, hb7⟩
        have E7 := hide ((unhide E6).step hc7 hb7)
        clear hc7 hb7 E6
        obtain ⟨j, rfl⟩ : ∃ j : Nat, q = j := ⟨q.toNat, by omega⟩
        have hj : j < L'.length := by omega
        obtain ⟨g7, rfl⟩ : ∃ g, a6 = some ⟨g, 0, none⟩ := by
          rcases (unhide E7).o.2 with ⟨e, e2⟩ | ⟨g, _, _, e, _⟩
          · omega
          · cases e; exact ⟨g, rfl⟩
        obtain ⟨d0, d1, d2, d3⟩ := own_four (unhide E7).o rfl j hj
        have HOA2 := hide ((unhide E7).k _ (List.getElem_mem hj))
        generalize L'[j] = A at d0 d1 d2 d3 HOA2
        have t2 := hide (cell_four_new w7 (cellsA A) 26)
        have T3 := hide (show ∀ u ∈ cellsA A, u.oneCell' = true from fun u hu => by simp [cellsA] at hu; rcases hu with rfl | rfl | rfl | rfl <;> rfl)
        have t5 : (L'.length + 1) * 48 ≤ 140737488355328 := by omega
        have T4 := hide (show w.heap.size + 1 ≤ (w7.alloc (.cells (cellsA A).toArray 26)).heap.size by have := (unhide E7).c.lt; simp; omega)
        go_wp2_with (at_builtin; refine wpList_append_own_at _ rfl _ _ 23 rfl (w.heap.size + 1) 26 i0 _ 4 48 Try.underlying23 hi hz0 hz1 hz2 rfl (by decide) _ _ _ rfl ((unhide E7).o.alloc _) ⟨_, 0, none⟩ 1 1 (cellsA A) rfl rfl (unhide t2) (unhide T3) (by unfold maxLen; omega) t5 (unhide T4) ?_; intro v5 w5 hown5 hgrow5 _ hat5; have F5 := hide ((unhide E7).app _ hgrow5 hown5 (unhide HOA2)); clear hown5 hgrow5 hat5)
        exact ⟨⟨k - 1, m + 40 + 2 + 2, L' ++ [A], by omega, by go_num, by omega, by simp; omega, F5⟩, by simp [intOf]; omega⟩
    · have e0 : k = 0 := by omega
      subst e0
      go_wp2_with fail
      refine (one_any w.heap.size m 20 _ (by omega) (by omega) (by omega) (unhide hD).c).mono ?_
      rintro e w6 ⟨⟨bb, rfl⟩, hc6, hb6⟩
      have E6 := hide ((unhide hD).step hc6 hb6)
      clear hc6 hb6 hD
      obtain ⟨a6, cap6, e6⟩ := own_sl (unhide E6).o
      subst e6
      go_upto_if 34 with fail
      go_cut [4] from 7 (fun v wx => ∃ (L : List AtomT), L.length ≤ 52 ∧ Hid (DA w 400 v L wx))
      case first =>
        cases bb
        · go_wp2_with fail
          go_meet
          case rel => exact ⟨L, by omega, hide ((unhide E6).mono (by omega))⟩
        · go_wp2_with fail
          refine (pick_any w.heap.size (m + 2) 3 _ (by omega) (by omega) (by omega) (unhide E6).c).mono ?_
          rintro e w7 ⟨⟨q, q0, q1, rfl⟩, hc7, hb7⟩
          have E7 := hide ((unhide E6).step hc7 hb7)
          clear hc7 hb7 E6
          obtain ⟨N, hN⟩ : ∃ N : Nat, 49 + q = (N : Int) := ⟨(49 + q).toNat, by omega⟩
          have hN2 : N ≤ 51 := by omega
          go_wp2_with fail
          go_loopw [4] (fun v wr => ∃ (L : List AtomT) (a : Option Addr) (cap : Nat), v = .slice a L.length cap ∧ L.length ≤ 52 ∧ Hid (DA w (m + 2 + 2) v L wr)) (fun v _ => 60 - slLen v)
          case atStart => exact ⟨L, a6, cap6, rfl, by omega, E7⟩
          case round =>
            clear E7
            obtain ⟨M, a8, cap8, rfl, hM, hD⟩ := hrel
            by_cases hlt : M.length < N
            · have i1 : (M.length : Int) < 49 + q := by omega
              have t2 := hide (cell_four_new wr (cellsA (⟨2, 100 - (M.length : Int), ⟨#[]⟩, ⟨#[]⟩⟩ : AtomT)) 26)
              have T3 := hide (show ∀ u ∈ cellsA (⟨2, 100 - (M.length : Int), ⟨#[]⟩, ⟨#[]⟩⟩ : AtomT), u.oneCell' = true from fun u hu => by simp [cellsA] at hu; rcases hu with rfl | rfl | rfl | rfl <;> rfl)
              have t5 : (M.length + 1) * 48 ≤ 140737488355328 := by omega
              have T4 := hide (show w.heap.size + 1 ≤ (wr.alloc (.cells (cellsA (⟨2, 100 - (M.length : Int), ⟨#[]⟩, ⟨#[]⟩⟩ : AtomT)).toArray 26)).heap.size by have := (unhide hD).c.lt; simp; omega)
              have HOA := hide (show AtomT.Ok (⟨2, 100 - (M.length : Int), ⟨#[]⟩, ⟨#[]⟩⟩ : AtomT) from ⟨by show _ ≤ 100 - (M.length : Int); omega, by show 100 - (M.length : Int) ≤ _; omega, by unfold maxLen; exact Nat.zero_le _, by unfold maxLen; exact Nat.zero_le _⟩)
              go_wp2_with (at_builtin; refine wpList_append_own_at _ rfl _ _ 23 rfl (w.heap.size + 1) 26 i0 _ 4 48 Try.underlying23 hi hz0 hz1 hz2 rfl (by decide) _ _ _ rfl ((unhide hD).o.alloc _) ⟨_, 0, none⟩ 1 1 (cellsA (⟨2, 100 - (M.length : Int), ⟨#[]⟩, ⟨#[]⟩⟩ : AtomT)) rfl rfl (unhide t2) (unhide T3) (by unfold maxLen; omega) t5 (unhide T4) ?_; intro v5 w5 hown5 hgrow5 _ hat5; have F5 := hide ((unhide hD).app _ hgrow5 hown5 (unhide HOA)); clear hown5 hgrow5 hat5)
              obtain ⟨a9, cap9, e9⟩ := own_sl (unhide F5).o
              subst e9
              exact ⟨⟨_, a9, cap9, rfl, by simp; omega, F5⟩, by simp [slLen]; omega⟩
            · have i1 : ¬ (M.length : Int) < 49 + q := by omega
              go_wp2_with fail
              go_meet
              case rel => exact ⟨M, hM, hide ((unhide hD).mono (by omega))⟩
      case rest =>
        clear E6
        obtain ⟨M, hM, hD⟩ := hcut
        obtain ⟨a8, cap8, e8⟩ := own_sl (unhide hD).o
        subst e8
        go_wp2_with fail
        refine (one_any w.heap.size 400 12 _ (by omega) (by omega) (by omega) (unhide hD).c).mono ?_
        rintro e w9 ⟨⟨bb, rfl⟩, hc9, hb9⟩
        have E9 := hide ((unhide hD).step hc9 hb9)
        clear hc9 hb9 hD
        have FIN : Hid (∀ (v : Value) (l : List AtomT) (wx : World), DA w 500 v l wx → l.length ≤ 52 → (∃ v' l', Ending.returned v = .returned v' ∧ wx.ownsRow (w.heap.size + 1) 26 4 v' l'.length (atomsV l') ∧ l'.length ≤ 60 ∧ ∀ q ∈ l', AtomT.Ok q) ∧ Below w.heap.size w wx) := hide (fun v l wx h hl => ⟨⟨v, l, rfl, h.o, by omega, h.k⟩, h.t⟩)
        cases bb
        · go_wp2_with fail
          go_ret
          exact unhide FIN _ _ _ ((unhide E9).mono (by omega)) hM
        · cases M with
          | nil =>
            go_wp2_with fail
            go_ret
            exact unhide FIN _ [] _ ((unhide E9).mono (by omega)) (by simp)
          | cons A t =>
            obtain ⟨g9, rfl⟩ : ∃ g, a8 = some ⟨g, 0, none⟩ := by
              rcases (unhide E9).o.2 with ⟨e, e2⟩ | ⟨g, _, _, e, _⟩
              · simp at e2
              · cases e; exact ⟨g, rfl⟩
            have i1 : (0 : Int) < ((A :: t).length : Int) := by first | (simp; done) | (simp; omega)
            obtain ⟨d0, d1, d2, d3⟩ := own_four (unhide E9).o rfl 0 (by simp)
            simp only [List.getElem_cons_zero, Nat.zero_mul, Nat.zero_add] at d0 d1 d2 d3
            have OA := hide ((unhide E9).k A List.mem_cons_self)
            obtain ⟨nl, hnl⟩ : ∃ nl, nl = (A :: t).length := ⟨_, rfl⟩
            rw [← hnl] at i1 ⊢
            have HNL := hide hnl
            clear hnl
            go_wp2_with fail
            refine (oddAtom_any w.heap.size (400 + 2) A _ (by omega) (unhide OA) (unhide E9).c).mono ?_
            rintro e w10 ⟨⟨A', oA', rfl⟩, hc10, hb10⟩
            have E10 := hide ((unhide E9).step hc10 hb10)
            have OA' := hide oA'
            obtain ⟨d0, d1, d2, d3⟩ := own_four (unhide E10).o rfl 0 (by simp)
            simp only [List.getElem_cons_zero, Nat.zero_mul, Nat.zero_add] at d0 d1 d2 d3
            have f0 := (unhide E10).o.frozenAt 0
            have f1 := (unhide E10).o.frozenAt 1
            have f2 := (unhide E10).o.frozenAt 2
            have f3 := (unhide E10).o.frozenAt 3
            have hg := (unhide E10).o.lt g9 rfl
            have sb : ∀ (x : World) (o : Nat) (u : Value), Below w.heap.size w x → Below w.heap.size w (x.setCell ⟨g9, o, none⟩ u) := fun x o u h => h.setCell (p := ⟨g9, o, none⟩) (by show w.heap.size ≤ g9; omega) u
            have sc : ∀ (x : World) (o : Nat) (u : Value), CurOk x w.heap.size (402 + 40) → CurOk (x.setCell ⟨g9, o, none⟩ u) w.heap.size (402 + 40) := fun x o u h => h.setAbove u (by omega)
            have E11 := hide (show DA w 500 (.slice (some ⟨g9, 0, none⟩) (A' :: t).length cap8) (A' :: t) ((((w10.setCell ⟨g9, 0, none⟩ (.int .i64 A'.x)).setCell ⟨g9, 1, none⟩ (.int .i64 A'.n)).setCell ⟨g9, 2, none⟩ (.string A'.t)).setCell ⟨g9, 3, none⟩ (.string A'.y)) from
              ⟨(((((((unhide E10).o.stored 0 (.int .i64 A'.x)).1).stored 1 (.int .i64 A'.n)).1).stored 2 (.string A'.t)).1.stored 3 (.string A'.y)).1, (sc _ _ _ (sc _ _ _ (sc _ _ _ (sc _ _ _ (unhide E10).c)))).mono (by omega), sb _ _ _ (sb _ _ _ (sb _ _ _ (sb _ _ _ (unhide E10).t))), fun q hq => by
                rcases List.mem_cons.1 hq with rfl | hq
                · exact unhide OA'
                · exact (unhide E10).k q (List.mem_cons_of_mem _ hq)⟩)
            clear hc10 hb10 E9 E10 sb sc hg
            go_wp2_with fail
            go_ret
            rw [unhide HNL]
            exact unhide FIN _ _ _ (unhide E11) hM
end Go.Proofs.Ytlnmhjihfolliaa.V
