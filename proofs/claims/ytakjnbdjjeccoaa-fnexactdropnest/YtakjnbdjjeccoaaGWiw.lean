/- spec.l5With: its walk. -/
import Derived.Test.YtakjnbdjjeccoaaGWit
namespace Go.Proofs.Ytakjnbdjjeccoaa
open Go.RowKit

/-- All that l5With holds: the answer so far, the nest's box, apart from each other. -/
structure LW (w0 w : World) (v : Value) (O : List NestT) (bn : Nat) (g m : Bs) : Prop where
  out : w.ownsRow w0.heap.size 42 2 v O.length (NestsV O)
  box : RowIs w bn #[.string g, .string m] 42
  ne : v.ownBlock ≠ some bn
  below : Below w0.heap.size w0 w
theorem LW.keep {w0 w w' : World} {v : Value} {O : List NestT} {bn : Nat} {g m : Bs} (h : LW w0 w v O bn g m) (hb : Below w.heap.size w w') : LW w0 w' v O bn g m :=
  ⟨own_keep h.out hb, h.box.keep hb, h.ne, bTr h.below hb⟩
theorem LW.app {w0 w w' : World} {v v' : Value} {O : List NestT} {bn : Nat} {g m : Bs} {c : NestT} {o : Obj} (h0 : LW w0 w v O bn g m)
    (hown : w'.ownsRow w0.heap.size 42 2 v' (O.length + 1) (NestsV O ++ encNest c)) (hg : (w.alloc o).grownBy w' v.ownBlock) (hat : v'.ownBlock = v.ownBlock ∨ v'.ownBlock = some (w.alloc o).heap.size) : LW w0 w' v' (O ++ [c]) bn g m := by
  have h := h0.keep (bAl (Below.refl _ w) o)
  refine ⟨by rw [List.length_append, NestsV_snoc]; exact hown, row_grown h.box hg (fun e => h.ne e.symm), fun e => ?_, h.below.grown hg h.below.size (fun k hk => (h.out.lt k hk).1)⟩
  rcases hat with q | q
  · exact h.ne (q ▸ e)
  · rw [q] at e
    have := h.box.lt
    simp at e
    simp at this
    omega
set_option maxRecDepth 100000 in
set_option maxHeartbeats 2000000 in
theorem l5With_any (a : Option Addr) (len cap : Nat) (l : List NestT) (g m : Bs) (add : Bool) (w : World) (hG : GoodL l) (hs : SlNest w a len l) (hok : ∀ q ∈ l, NestT.Ok q) :
    Calls Try.prog 86 #[.slice a len cap, .agg #[.string g, .string m], .bool add] w fun e w' => (∃ v r, e = .returned v ∧ WT l (g, m) add r ∧ w'.ownsRow w.heap.size 42 2 v r.length (NestsV r)) ∧ Below w.heap.size w w' := by
  obtain ⟨i0, hi, hz0, hz1, hz2⟩ := info_parts info_Nest
  obtain ⟨W, hW⟩ : ∃ W, W = w.alloc (.cells #[.string g, .string m] 42) := ⟨_, rfl⟩
  have L0 := hide (show LW w W (.slice none 0 0) [] w.heap.size g m from ⟨World.ownsRow_nil _ _ _ _, by rw [hW]; exact RowIs.new _ _ _, by simp [Value.ownBlock], by rw [hW]; exact bAl (Below.refl _ _) _⟩)
  have HW := hide hW.symm
  have HS := hide hs
  have HL := hide hs.1
  have HO := hide hok
  have GD := hide hG
  have h200 : len ≤ 200 := by rw [hs.1]; exact hG.1
  clear hs hok hG hW
  go_enter Try.func86, Try.ntmps86
  go_wp2_with fail
  rw [unhide HW]
  clear HW
  go_loopw [7, 8, 16] (fun v b i wr => ∃ (k : Nat) (put : Bool) (O : List NestT), k ≤ len ∧ i = .int .i64 k ∧ b = .bool put ∧ Hid (LW w wr v O w.heap.size g m) ∧ Hid (WI l (g, m) add k put O) ∧ Hid (put = false → O.length ≤ k)) (fun _ _ i _ => len - (Go.RowKit.intOf i).toNat)
  case atStart => exact ⟨0, !add, [], Nat.zero_le _, rfl, rfl, L0, hide (WI.start l (g, m) add), hide (fun _ => by simp)⟩
  case round =>
    clear L0
    obtain ⟨k, put, O, hk, rfl, rfl, hLW, hI, hOl⟩ := hrel
    have hOlen := (unhide hI).len
    by_cases hlt : k < len
    · have hk' : k < l.length := by rw [← unhide HL]; exact hlt
      obtain ⟨b, off, rfl, hrow⟩ := ((unhide HS).keep (unhide hLW).below).at hlt
      have c0 := hrow.c0 k hk'
      have c1 := hrow.c1 k hk'
      have zk := hrow.z
      have ho := unhide HO _ (List.getElem_mem hk')
      have eP : Hid (put = false → ¬ cfN ((l[k]).f0, (l[k]).f1) (g, m) < 0 → WI l (g, m) add k true (O ++ [⟨g, m⟩])) := hide (fun e h => by subst e; exact (unhide hI).put hk' h (unhide hOl rfl))
      have eT := hide (fun (O' : List NestT) (p : Bool) (h : WI l (g, m) add k p O') (hc : ¬ cfN ((l[k]).f0, (l[k]).f1) (g, m) = 0) (hp : p = false → cfN ((l[k]).f0, (l[k]).f1) (g, m) < 0) => h.take (unhide GD) hk' hc hp)
      have eK := hide (fun (O' : List NestT) (h : WI l (g, m) add k true O') (hc : cfN ((l[k]).f0, (l[k]).f1) (g, m) = 0) => h.skip hk' hc)
      obtain ⟨W2, hW2⟩ : ∃ W2, W2 = wr.alloc (.cells #[.string (l[k]).f0, .string (l[k]).f1] 42) := ⟨_, rfl⟩
      have b2 : Below wr.heap.size wr W2 := by rw [hW2]; exact bAl (Below.refl _ _) _
      have RX0 := hide (show RowIs W2 wr.heap.size #[.string (l[k]).f0, .string (l[k]).f1] 42 by rw [hW2]; exact RowIs.new _ _ _)
      have L2 := hide ((unhide hLW).keep b2)
      have NX := hide (show u7.ownBlock ≠ some wr.heap.size from fun e => by have := ((unhide hLW).out.lt _ e).2; omega)
      have HW2 := hide hW2.symm
      have qc := hide (fun w => l5CmpNest_any (l[k]).f0 (l[k]).f1 g m ho.o0 ho.o1 w)
      have n0 := (unhide L2).box.at (o := 0) (v := .string g) rfl
      have n1 := (unhide L2).box.at (o := 1) (v := .string m) rfl
      have zn := (unhide L2).box.lt
      have p0 := (unhide hLW).box.at (o := 0) (v := .string g) rfl
      have p1 := (unhide hLW).box.at (o := 1) (v := .string m) rfl
      have zp := (unhide hLW).box.lt
      unfold cfN at eP eT eK
      simp only at eP eT eK
      clear hrow ho hW2 b2 hLW
      generalize l[k] = A at c0 c1 eP eT eK HW2 RX0 qc
      generalize cmpNe A.f0 A.f1 g m = V at qc eP eT eK
      go_wp2_with fail
      rw [unhide HW2]
      refine (unhide qc _).mono ?_
      rintro e w3 ⟨rfl, hb3⟩
      have L3 := hide ((unhide L2).keep hb3)
      have RX := hide ((unhide RX0).keep hb3)
      have n0 := (unhide L3).box.at (o := 0) (v := .string g) rfl
      have n1 := (unhide L3).box.at (o := 1) (v := .string m) rfl
      have zn := (unhide L3).box.lt
      have x0 := (unhide RX).at (o := 0) (v := .string A.f0) rfl
      have x1 := (unhide RX).at (o := 1) (v := .string A.f1) rfl
      have zx := (unhide RX).lt
      clear hb3 qc RX0 L2 HW2 c0 c1 p0 p1 zp
      rcases Int.lt_trichotomy V 0 with hv | hv | hv
      · have d1 : decide ((0 : Int) ≤ V) = false := decide_eq_false (by omega)
        have d2 : (V != 0) = true := by simp; omega
        have I2 := hide (unhide eT O put (unhide hI) (by omega) (fun _ => hv))
        have OL := hide (show put = false → (O ++ [A]).length ≤ k + 1 from fun e => by have := unhide hOl e; simp; omega)
        clear eP eT eK hI hOl
        go_wp2_with (at_builtin; refine wpList_append_own_at _ rfl _ _ 25 rfl w.heap.size 42 i0 _ 2 32 Try.underlying25 hi hz0 hz1 hz2 rfl (by decide) _ _ _ rfl ((unhide L3).out.alloc _) ⟨_, 0, none⟩ 1 1 [.string A.f0, .string A.f1] rfl rfl (cell_two_at _ _ rfl _ _ _) (fun x hx => by simp at hx; rcases hx with rfl | rfl <;> rfl) (by unfold maxLen; omega) (by omega) (by have := (unhide L3).below.size; simp; omega) ?_; intro v5 w5 hown hgrow _ hat; have L4 := hide ((unhide L3).app (c := A) hown hgrow hat); clear hown hgrow hat)
        exact ⟨⟨k + 1, put, O ++ [A], by omega, by go_num, rfl, L4, I2, OL⟩, by simp [Go.RowKit.intOf]; omega⟩
      · subst hv
        have d1 : decide ((0 : Int) ≤ 0) = true := rfl
        have d2 : ((0 : Int) != 0) = false := rfl
        cases put
        · have I2 := hide (unhide eK _ (unhide eP rfl (by omega)) rfl)
          clear eP eT eK hI hOl
          go_wp2_with (at_builtin; refine wpList_append_own_at _ rfl _ _ 25 rfl w.heap.size 42 i0 _ 2 32 Try.underlying25 hi hz0 hz1 hz2 rfl (by decide) _ _ _ rfl ((unhide L3).out.alloc _) ⟨_, 0, none⟩ 1 1 [.string g, .string m] rfl rfl (cell_two_at _ _ rfl _ _ _) (fun x hx => by simp at hx; rcases hx with rfl | rfl <;> rfl) (by unfold maxLen; omega) (by omega) (by have := (unhide L3).below.size; simp; omega) ?_; intro v5 w5 hown hgrow _ hat; have L4 := hide ((unhide L3).app (c := ⟨g, m⟩) hown hgrow hat); have kx := row_grown ((unhide RX).keep (bAl (Below.refl _ _) _)) hgrow (fun e => unhide NX e.symm); have y0 := kx.at (o := 0) (v := .string A.f0) rfl; have y1 := kx.at (o := 1) (v := .string A.f1) rfl; have zy := kx.lt; clear hown hgrow hat kx)
          exact ⟨⟨k + 1, true, O ++ [⟨g, m⟩], by omega, by go_num, rfl, L4, I2, hide (fun e => by cases e)⟩, by simp [Go.RowKit.intOf]; omega⟩
        · have I2 := hide (unhide eK _ (unhide hI) rfl)
          clear eP eT eK hI hOl
          go_wp2_with fail
          exact ⟨⟨k + 1, true, O, by omega, by go_num, rfl, L3, I2, hide (fun e => by cases e)⟩, by simp [Go.RowKit.intOf]; omega⟩
      · have d1 : decide ((0 : Int) ≤ V) = true := decide_eq_true (by omega)
        have d2 : (V != 0) = true := by simp; omega
        cases put
        · have I2 := hide (unhide eT _ true (unhide eP rfl (by omega)) (by omega) (fun e => by cases e))
          clear eP eT eK hI hOl
          go_wp2_with (first
            | (at_builtin; refine wpList_append_own_at _ rfl _ _ 25 rfl w.heap.size 42 i0 _ 2 32 Try.underlying25 hi hz0 hz1 hz2 rfl (by decide) _ _ _ rfl ((unhide L3).out.alloc _) ⟨_, 0, none⟩ 1 1 [.string g, .string m] rfl rfl (cell_two_at _ _ rfl _ _ _) (fun x hx => by simp at hx; rcases hx with rfl | rfl <;> rfl) (by unfold maxLen; omega) (by omega) (by have := (unhide L3).below.size; simp; omega) ?_; intro v5 w5 hown hgrow _ hat; have L4 := hide ((unhide L3).app (c := ⟨g, m⟩) hown hgrow hat); have kx := row_grown ((unhide RX).keep (bAl (Below.refl _ _) _)) hgrow (fun e => unhide NX e.symm); have y0 := kx.at (o := 0) (v := .string A.f0) rfl; have y1 := kx.at (o := 1) (v := .string A.f1) rfl; have zy := kx.lt; clear hown hgrow hat kx)
            | (at_builtin; refine wpList_append_own_at _ rfl _ _ 25 rfl w.heap.size 42 i0 _ 2 32 Try.underlying25 hi hz0 hz1 hz2 rfl (by decide) _ _ _ rfl ((unhide L4).out.alloc _) ⟨_, 0, none⟩ 1 1 [.string A.f0, .string A.f1] rfl rfl (cell_two_at _ _ rfl _ _ _) (fun x hx => by simp at hx; rcases hx with rfl | rfl <;> rfl) (by unfold maxLen; rw [List.length_append, List.length_singleton]; omega) (by rw [List.length_append, List.length_singleton]; omega) (by have := (unhide L4).below.size; simp; omega) ?_; intro v6 w6 hown hgrow _ hat; have L5 := hide ((unhide L4).app (c := A) hown hgrow hat); clear hown hgrow hat))
          exact ⟨⟨k + 1, true, O ++ [⟨g, m⟩] ++ [A], by omega, by go_num, rfl, L5, I2, hide (fun e => by cases e)⟩, by simp [Go.RowKit.intOf]; omega⟩
        · have I2 := hide (unhide eT O true (unhide hI) (by omega) (fun e => by cases e))
          clear eP eT eK hI hOl
          go_wp2_with (at_builtin; refine wpList_append_own_at _ rfl _ _ 25 rfl w.heap.size 42 i0 _ 2 32 Try.underlying25 hi hz0 hz1 hz2 rfl (by decide) _ _ _ rfl ((unhide L3).out.alloc _) ⟨_, 0, none⟩ 1 1 [.string A.f0, .string A.f1] rfl rfl (cell_two_at _ _ rfl _ _ _) (fun x hx => by simp at hx; rcases hx with rfl | rfl <;> rfl) (by unfold maxLen; omega) (by omega) (by have := (unhide L3).below.size; simp; omega) ?_; intro v5 w5 hown hgrow _ hat; have L4 := hide ((unhide L3).app (c := A) hown hgrow hat); clear hown hgrow hat)
          exact ⟨⟨k + 1, true, O ++ [A], by omega, by go_num, rfl, L4, I2, hide (fun e => by cases e)⟩, by simp [Go.RowKit.intOf]; omega⟩
    · have ek : k = l.length := by rw [← unhide HL]; omega
      subst ek
      have n0 := (unhide hLW).box.at (o := 0) (v := .string g) rfl
      have n1 := (unhide hLW).box.at (o := 1) (v := .string m) rfl
      have zn := (unhide hLW).box.lt
      cases put
      · have FT := hide ((unhide hI).end2 (unhide hOl rfl))
        clear hI hOl
        go_wp2_with (at_builtin; refine wpList_append_own_at _ rfl _ _ 25 rfl w.heap.size 42 i0 _ 2 32 Try.underlying25 hi hz0 hz1 hz2 rfl (by decide) _ _ _ rfl ((unhide hLW).out.alloc _) ⟨_, 0, none⟩ 1 1 [.string g, .string m] rfl rfl (cell_two_at _ _ rfl _ _ _) (fun x hx => by simp at hx; rcases hx with rfl | rfl <;> rfl) (by unfold maxLen; omega) (by omega) (by have := (unhide hLW).below.size; simp; omega) ?_; intro v5 w5 hown hgrow _ hat; have L4 := hide ((unhide hLW).app (c := ⟨g, m⟩) hown hgrow hat); clear hown hgrow hat)
        go_ret
        have L9 := unhide L4
        have F9 := unhide FT
        exact ⟨⟨_, rfl, _, F9, L9.out⟩, L9.below⟩
      · have FT := hide (unhide hI).end_
        clear hI hOl
        go_wp2_with fail
        go_ret
        have L9 := unhide hLW
        have F9 := unhide FT
        exact ⟨⟨_, _, rfl, F9, L9.out⟩, L9.below⟩
end Go.Proofs.Ytakjnbdjjeccoaa
