/- GWiw, GChs, one behind the other. -/
import Derived.Test.YtakjnbdjjeccoaaJ24
/- spec.l5With: its walk. -/
namespace Go.Proofs.Ytakjnbdjjeccoaa
open Go.RowKit

/-- All that l5With holds: the answer so far, the nest's box, apart from each other. -/
structure LW (w0 w : World) (v : Value) (O : List NestT) (bn : Nat) (g m : Bs) : Prop where
  out : w.ownsRow w0.heap.size 42 2 v O.length (NestsV O)
  box : RowIs w bn #[.string g, .string m] 42
  ne : v.ownBlock ≠ some bn
  below : Below w0.heap.size w0 w
theorem LW.keep {w0 w w' : World} {v : Value} {O : List NestT} {bn : Nat} {g m : Bs} (h : LW w0 w v O bn g m) (hb : Below w.heap.size w w') : LW w0 w' v O bn g m :=
  ⟨own_keep h.out hb, h.box.keep hb, h.ne, bTr h.below hb⟩
theorem LW.app {w0 w w' : World} {v v' : Value} {O : List NestT} {bn : Nat} {g m : Bs} {c : NestT} {o : Obj} (h0 : LW w0 w v O bn g m)
    (hown : w'.ownsRow w0.heap.size 42 2 v' (O.length + 1) (NestsV O ++ encNest c)) (hg : (w.alloc o).grownBy w' v.ownBlock) (hat : v'.ownBlock = v.ownBlock ∨ v'.ownBlock = some (w.alloc o).heap.size) : LW w0 w' v' (O ++ [c]) bn g m := by
  have h := h0.keep (bAl (Below.refl _ w) o)
  refine ⟨by rw [List.length_append, NestsV_snoc]; exact hown, row_grown h.box hg (fun e => h.ne e.symm), fun e => ?_, h.below.grown hg h.below.size (fun k hk => (h.out.lt k hk).1)⟩
  rcases hat with q | q
  · exact h.ne (q ▸ e)
  · rw [q] at e
    have := h.box.lt
    simp at e
    simp at this
    omega
set_option maxRecDepth 100000 in
set_option maxHeartbeats 2000000 in
theorem l5With_any (a : Option Addr) (len cap : Nat) (l : List NestT) (g m : Bs) (add : Bool) (w : World) (hG : GoodL l) (hs : SlNest w a len l) (hok : ∀ q ∈ l, NestT.Ok q) :
    Calls Try.prog 86 #[.slice a len cap, .agg #[.string g, .string m], .bool add] w fun e w' => (∃ v r, e = .returned v ∧ WT l (g, m) add r ∧ w'.ownsRow w.heap.size 42 2 v r.length (NestsV r)) ∧ Below w.heap.size w w' := by
  obtain ⟨i0, hi, hz0, hz1, hz2⟩ := info_parts info_Nest
  obtain ⟨W, hW⟩ : ∃ W, W = w.alloc (.cells #[.string g, .string m] 42) := ⟨_, rfl⟩
  have L0 := hide (show LW w W (.slice none 0 0) [] w.heap.size g m from ⟨World.ownsRow_nil _ _ _ _, by rw [hW]; exact RowIs.new _ _ _, by simp [Value.ownBlock], by rw [hW]; exact bAl (Below.refl _ _) _⟩)
  have HW := hide hW.symm
  have HS := hide hs
  have HL := hide hs.1
  have HO := hide hok
  have GD := hide hG
  have h200 : len ≤ 200 := by rw [hs.1]; exact hG.1
  clear hs hok hG hW
  go_enter Try.func86, Try.ntmps86
  go_wp2_with fail
  rw [unhide HW]
  clear HW
  go_loopw [7, 8, 16] (fun v b i wr => ∃ (k : Nat) (put : Bool) (O : List NestT), k ≤ len ∧ i = .int .i64 k ∧ b = .bool put ∧ Hid (LW w wr v O w.heap.size g m) ∧ Hid (WI l (g, m) add k put O) ∧ Hid (put = false → O.length ≤ k)) (fun _ _ i _ => len - (Go.RowKit.intOf i).toNat)
  case atStart => exact ⟨0, !add, [], Nat.zero_le _, rfl, rfl, L0, hide (WI.start l (g, m) add), hide (fun _ => by simp)⟩
  case round =>
    clear L0
    obtain ⟨k, put, O, hk, rfl, rfl, hLW, hI, hOl⟩ := hrel
    have hOlen := (unhide hI).len
    by_cases hlt : k < len
    · have hk' : k < l.length := by rw [← unhide HL]; exact hlt
      obtain ⟨b, off, rfl, hrow⟩ := ((unhide HS).keep (unhide hLW).below).at hlt
      have c0 := hrow.c0 k hk'
      have c1 := hrow.c1 k hk'
      have zk := hrow.z
      have ho := unhide HO _ (List.getElem_mem hk')
      have eP : Hid (put = false → ¬ cfN ((l[k]).f0, (l[k]).f1) (g, m) < 0 → WI l (g, m) add k true (O ++ [⟨g, m⟩])) := hide (fun e h => by subst e; exact (unhide hI).put hk' h (unhide hOl rfl))
      have eT := hide (fun (O' : List NestT) (p : Bool) (h : WI l (g, m) add k p O') (hc : ¬ cfN ((l[k]).f0, (l[k]).f1) (g, m) = 0) (hp : p = false → cfN ((l[k]).f0, (l[k]).f1) (g, m) < 0) => h.take (unhide GD) hk' hc hp)
      have eK := hide (fun (O' : List NestT) (h : WI l (g, m) add k true O') (hc : cfN ((l[k]).f0, (l[k]).f1) (g, m) = 0) => h.skip hk' hc)
      obtain ⟨W2, hW2⟩ : ∃ W2, W2 = wr.alloc (.cells #[.string (l[k]).f0, .string (l[k]).f1] 42) := ⟨_, rfl⟩
      have b2 : Below wr.heap.size wr W2 := by rw [hW2]; exact bAl (Below.refl _ _) _
      have RX0 := hide (show RowIs W2 wr.heap.size #[.string (l[k]).f0, .string (l[k]).f1] 42 by rw [hW2]; exact RowIs.new _ _ _)
      have L2 := hide ((unhide hLW).keep b2)
      have NX := hide (show u7.ownBlock ≠ some wr.heap.size from fun e => by have := ((unhide hLW).out.lt _ e).2; omega)
      have HW2 := hide hW2.symm
      have qc := hide (fun w => l5CmpNest_any (l[k]).f0 (l[k]).f1 g m ho.o0 ho.o1 w)
      have n0 := (unhide L2).box.at (o := 0) (v := .string g) rfl
      have n1 := (unhide L2).box.at (o := 1) (v := .string m) rfl
      have zn := (unhide L2).box.lt
      have p0 := (unhide hLW).box.at (o := 0) (v := .string g) rfl
      have p1 := (unhide hLW).box.at (o := 1) (v := .string m) rfl
      have zp := (unhide hLW).box.lt
      unfold cfN at eP eT eK
      simp only at eP eT eK
      clear hrow ho hW2 b2 hLW
      generalize l[k] = A at c0 c1 eP eT eK HW2 RX0 qc
      generalize cmpNe A.f0 A.f1 g m = V at qc eP eT eK
      go_wp2_with fail
      rw [unhide HW2]
      refine (unhide qc _).mono ?_
      rintro e w3 ⟨rfl, hb3⟩
      have L3 := hide ((unhide L2).keep hb3)
      have RX := hide ((unhide RX0).keep hb3)
      have n0 := (unhide L3).box.at (o := 0) (v := .string g) rfl
      have n1 := (unhide L3).box.at (o := 1) (v := .string m) rfl
      have zn := (unhide L3).box.lt
      have x0 := (unhide RX).at (o := 0) (v := .string A.f0) rfl
      have x1 := (unhide RX).at (o := 1) (v := .string A.f1) rfl
      have zx := (unhide RX).lt
      clear hb3 qc RX0 L2 HW2 c0 c1 p0 p1 zp
      rcases Int.lt_trichotomy V 0 with hv | hv | hv
      · have d1 : decide ((0 : Int) ≤ V) = false := decide_eq_false (by omega)
        have d2 : (V != 0) = true := by simp; omega
        have I2 := hide (unhide eT O put (unhide hI) (by omega) (fun _ => hv))
        have OL := hide (show put = false → (O ++ [A]).length ≤ k + 1 from fun e => by have := unhide hOl e; simp; omega)
        clear eP eT eK hI hOl
        go_wp2_with (at_builtin; refine wpList_append_own_at _ rfl _ _ 25 rfl w.heap.size 42 i0 _ 2 32 Try.underlying25 hi hz0 hz1 hz2 rfl (by decide) _ _ _ rfl ((unhide L3).out.alloc _) ⟨_, 0, none⟩ 1 1 [.string A.f0, .string A.f1] rfl rfl (cell_two_at _ _ rfl _ _ _) (fun x hx => by simp at hx; rcases hx with rfl | rfl <;> rfl) (by unfold maxLen; omega) (by omega) (by have := (unhide L3).below.size; simp; omega) ?_; intro v5 w5 hown hgrow _ hat; have L4 := hide ((unhide L3).app (c := A) hown hgrow hat); clear hown hgrow hat)
        exact ⟨⟨k + 1, put, O ++ [A], by omega, by go_num, rfl, L4, I2, OL⟩, by simp [Go.RowKit.intOf]; omega⟩
      · subst hv
        have d1 : decide ((0 : Int) ≤ 0) = true := rfl
        have d2 : ((0 : Int) != 0) = false := rfl
        cases put
        · have I2 := hide (unhide eK _ (unhide eP rfl (by omega)) rfl)
          clear eP eT eK hI hOl
          go_wp2_with (at_builtin; refine wpList_append_own_at _ rfl _ _ 25 rfl w.heap.size 42 i0 _ 2 32 Try.underlying25 hi hz0 hz1 hz2 rfl (by decide) _ _ _ rfl ((unhide L3).out.alloc _) ⟨_, 0, none⟩ 1 1 [.string g, .string m] rfl rfl (cell_two_at _ _ rfl _ _ _) (fun x hx => by simp at hx; rcases hx with rfl | rfl <;> rfl) (by unfold maxLen; omega) (by omega) (by have := (unhide L3).below.size; simp; omega) ?_; intro v5 w5 hown hgrow _ hat; have L4 := hide ((unhide L3).app (c := ⟨g, m⟩) hown hgrow hat); have kx := row_grown ((unhide RX).keep (bAl (Below.refl _ _) _)) hgrow (fun e => unhide NX e.symm); have y0 := kx.at (o := 0) (v := .string A.f0) rfl; have y1 := kx.at (o := 1) (v := .string A.f1) rfl; have zy := kx.lt; clear hown hgrow hat kx)
          exact ⟨⟨k + 1, true, O ++ [⟨g, m⟩], by omega, by go_num, rfl, L4, I2, hide (fun e => by cases e)⟩, by simp [Go.RowKit.intOf]; omega⟩
        · have I2 := hide (unhide eK _ (unhide hI) rfl)
          clear eP eT eK hI hOl
          go_wp2_with fail
          exact ⟨⟨k + 1, true, O, by omega, by go_num, rfl, L3, I2, hide (fun e => by cases e)⟩, by simp [Go.RowKit.intOf]; omega⟩
      · have d1 : decide ((0 : Int) ≤ V) = true := decide_eq_true (by omega)
        have d2 : (V != 0) = true := by simp; omega
        cases put
        · have I2 := hide (unhide eT _ true (unhide eP rfl (by omega)) (by omega) (fun e => by cases e))
          clear eP eT eK hI hOl
          go_wp2_with (first
            | (at_builtin; refine wpList_append_own_at _ rfl _ _ 25 rfl w.heap.size 42 i0 _ 2 32 Try.underlying25 hi hz0 hz1 hz2 rfl (by decide) _ _ _ rfl ((unhide L3).out.alloc _) ⟨_, 0, none⟩ 1 1 [.string g, .string m] rfl rfl (cell_two_at _ _ rfl _ _ _) (fun x hx => by simp at hx; rcases hx with rfl | rfl <;> rfl) (by unfold maxLen; omega) (by omega) (by have := (unhide L3).below.size; simp; omega) ?_; intro v5 w5 hown hgrow _ hat; have L4 := hide ((unhide L3).app (c := ⟨g, m⟩) hown hgrow hat); have kx := row_grown ((unhide RX).keep (bAl (Below.refl _ _) _)) hgrow (fun e => unhide NX e.symm); have y0 := kx.at (o := 0) (v := .string A.f0) rfl; have y1 := kx.at (o := 1) (v := .string A.f1) rfl; have zy := kx.lt; clear hown hgrow hat kx)
            | (at_builtin; refine wpList_append_own_at _ rfl _ _ 25 rfl w.heap.size 42 i0 _ 2 32 Try.underlying25 hi hz0 hz1 hz2 rfl (by decide) _ _ _ rfl ((unhide L4).out.alloc _) ⟨_, 0, none⟩ 1 1 [.string A.f0, .string A.f1] rfl rfl (cell_two_at _ _ rfl _ _ _) (fun x hx => by simp at hx; rcases hx with rfl | rfl <;> rfl) (by unfold maxLen; rw [List.length_append, List.length_singleton]; omega) (by rw [List.length_append, List.length_singleton]; omega) (by have := (unhide L4).below.size; simp; omega) ?_; intro v6 w6 hown hgrow _ hat; have L5 := hide ((unhide L4).app (c := A) hown hgrow hat); clear hown hgrow hat))
          exact ⟨⟨k + 1, true, O ++ [⟨g, m⟩] ++ [A], by omega, by go_num, rfl, L5, I2, hide (fun e => by cases e)⟩, by simp [Go.RowKit.intOf]; omega⟩
        · have I2 := hide (unhide eT O true (unhide hI) (by omega) (fun e => by cases e))
          clear eP eT eK hI hOl
          go_wp2_with (at_builtin; refine wpList_append_own_at _ rfl _ _ 25 rfl w.heap.size 42 i0 _ 2 32 Try.underlying25 hi hz0 hz1 hz2 rfl (by decide) _ _ _ rfl ((unhide L3).out.alloc _) ⟨_, 0, none⟩ 1 1 [.string A.f0, .string A.f1] rfl rfl (cell_two_at _ _ rfl _ _ _) (fun x hx => by simp at hx; rcases hx with rfl | rfl <;> rfl) (by unfold maxLen; omega) (by omega) (by have := (unhide L3).below.size; simp; omega) ?_; intro v5 w5 hown hgrow _ hat; have L4 := hide ((unhide L3).app (c := A) hown hgrow hat); clear hown hgrow hat)
          exact ⟨⟨k + 1, true, O ++ [A], by omega, by go_num, rfl, L4, I2, hide (fun e => by cases e)⟩, by simp [Go.RowKit.intOf]; omega⟩
    · have ek : k = l.length := by rw [← unhide HL]; omega
      subst ek
      have n0 := (unhide hLW).box.at (o := 0) (v := .string g) rfl
      have n1 := (unhide hLW).box.at (o := 1) (v := .string m) rfl
      have zn := (unhide hLW).box.lt
      cases put
      · have FT := hide ((unhide hI).end2 (unhide hOl rfl))
        clear hI hOl
        go_wp2_with (at_builtin; refine wpList_append_own_at _ rfl _ _ 25 rfl w.heap.size 42 i0 _ 2 32 Try.underlying25 hi hz0 hz1 hz2 rfl (by decide) _ _ _ rfl ((unhide hLW).out.alloc _) ⟨_, 0, none⟩ 1 1 [.string g, .string m] rfl rfl (cell_two_at _ _ rfl _ _ _) (fun x hx => by simp at hx; rcases hx with rfl | rfl <;> rfl) (by unfold maxLen; omega) (by omega) (by have := (unhide hLW).below.size; simp; omega) ?_; intro v5 w5 hown hgrow _ hat; have L4 := hide ((unhide hLW).app (c := ⟨g, m⟩) hown hgrow hat); clear hown hgrow hat)
        go_ret
        have L9 := unhide L4
        have F9 := unhide FT
        exact ⟨⟨_, rfl, _, F9, L9.out⟩, L9.below⟩
      · have FT := hide (unhide hI).end_
        clear hI hOl
        go_wp2_with fail
        go_ret
        have L9 := unhide hLW
        have F9 := unhide FT
        exact ⟨⟨_, _, rfl, F9, L9.out⟩, L9.below⟩
end Go.Proofs.Ytakjnbdjjeccoaa
/- spec.l5Change, spec.AddNest, DropNest. -/
namespace Go.Proofs.Ytakjnbdjjeccoaa
open Go.RowKit

/-- The set that is told. -/
def ChS (l : List NestT) (n : Bs × Bs) : Bool → Bs × Bs → Prop
  | true => AddS l n
  | false => DropS l n
theorem WT.chs {l : List NestT} {n : Bs × Bs} {add : Bool} {r : List NestT} (h : WT l n add r) (x : NestT) : x ∈ r ↔ ChS l n add (x.f0, x.f1) := by
  rw [h.mem x]
  have e : SetL l (x.f0, x.f1) ↔ x ∈ l := by
    constructor
    · rintro ⟨y, hy, h1⟩; rw [← nest_inj h1]; exact hy
    · intro h; exact ⟨x, h, rfl⟩
  cases add
  · show _ ↔ SetL l _ ∧ _
    rw [e]; simp
  · show _ ↔ SetL l _ ∨ _
    rw [e]
    by_cases q : (x.f0, x.f1) = n <;> simp [q]
theorem WT.good {l : List NestT} (hG : GoodL l) {g m : Bs} (hn : gNest g m = true) {add : Bool} {r : List NestT} (h : WT l (g, m) add r) (h2 : r.length ≤ 200) : GoodL r := by
  refine ⟨h2, fun i hi _ => ?_, fun i hi h0 _ => ?_⟩
  · rcases (h.mem r[i]).1 (List.getElem_mem hi) with ⟨h1, _⟩ | ⟨_, h1⟩
    · obtain ⟨j, hj, e⟩ := List.getElem_of_mem h1
      have := hG.2.1 j hj hj
      rw [e] at this; exact this
    · unfold gNe
      simp only [Prod.mk.injEq] at h1
      rw [h1.1, h1.2]; exact hn
  · exact List.pairwise_iff_getElem.1 h.ris (i - 1) i (by omega) hi (by omega)
theorem WT.tn {l : List NestT} {n : Bs × Bs} {add : Bool} {r : List NestT} (h : WT l n add r) : (r.length ≤ 200 → TN (ChS l n add) r) ∧ (200 < r.length → TN (ChS l n add) []) := by
  refine ⟨fun h2 => .inr ⟨h2, h.ris, h.chs⟩, fun h2 => .inl ⟨rfl, r.map fun x => (x.f0, x.f1), ?_, fun p => ?_, by simpa using h2⟩⟩
  · unfold List.Nodup
    rw [List.pairwise_map]
    exact h.ris.imp (fun {a b} q e => by rw [e] at q; exact cfN_irr _ q)
  · rw [List.mem_map]
    constructor
    · rintro ⟨x, hx, rfl⟩; exact (h.chs x).1 hx
    · intro hp; exact ⟨⟨p.1, p.2⟩, (h.chs ⟨p.1, p.2⟩).2 hp, rfl⟩
theorem PRea.nil : PRea [] [] := ⟨List.Pairwise.nil, fun x => ⟨(fun h => by simp at h), fun ⟨n, _, hn⟩ => by
  obtain ⟨q, hq, _⟩ := (Inn.pair hn).2.1
  simp at hq⟩⟩

set_option maxRecDepth 100000 in
set_option maxHeartbeats 1500000 in
theorem l5Change_any (a : Option Addr) (len cap : Nat) (l : List NestT) (g m : Bs) (add : Bool) (w : World) (hl : len ≤ maxLen) (hs : SlNest w a len l) (hok : ∀ q ∈ l, NestT.Ok q) (hg : g.size ≤ maxLen) (hm : m.size ≤ maxLen) :
    Calls Try.prog 58 #[.slice a len cap, .agg #[.string g, .string m], .bool add] w fun e w' => (∃ v u r1 r2, e = .returned (.tuple #[v, u]) ∧ PChg l (g, m) (ChS l (g, m) add) r1 r2 ∧ w'.ownsRow w.heap.size 42 2 v r1.length (NestsV r1) ∧ w'.ownsRow w.heap.size 70 3 u r2.length (ReachsV r2) ∧ DJ v u) ∧ Below w.heap.size w w' := by
  obtain ⟨W, hW⟩ : ∃ W, W = w.alloc (.cells #[.string g, .string m] 42) := ⟨_, rfl⟩
  have R0 := hide (show RowIs W w.heap.size #[.string g, .string m] 42 by rw [hW]; exact RowIs.new _ _ _)
  have B0 := hide (show Below w.heap.size w W by rw [hW]; exact bAl (Below.refl _ _) _)
  have HW := hide hW.symm
  have HS := hide hs
  have HO := hide hok
  have qg := hide (sGoodNests_any a len cap l W hl (hs.keep (unhide B0)) hok)
  have q1 := hide (fun w => l5Group_any g hg w)
  have q2 := hide (fun w => sGoodName_any m hm w)
  clear hs hok hW
  unfold maxLen at hl
  go_enter Try.func58, Try.ntmps58
  go_wp2_with fail
  rw [unhide HW]
  refine (unhide qg).mono ?_
  rintro e w1 ⟨⟨gd, rfl, hgd⟩, hb1⟩
  have HG := hide hgd
  have B1 := hide (bTr (unhide B0) hb1)
  have R1 := hide ((unhide R0).keep hb1)
  clear hgd hb1 qg R0 B0 HW
  cases gd
  · have FIN := hide (show PChg l (g, m) (ChS l (g, m) add) [] [] from .inr ⟨(fun h => by have := (unhide HG).2 h.1; cases this), rfl, rfl⟩)
    clear HG q1 q2
    go_wp2_with fail
    exact bodyPost_ret (v := .tuple #[.slice none 0 0, .slice none 0 0]) (by simp [results, Try.results58, go_sem]) rfl ⟨⟨_, _, [], [], rfl, unhide FIN, World.ownsRow_nil _ _ _ _, World.ownsRow_nil _ _ _ _, dj_nil _⟩, unhide B1⟩
  · have GD := hide ((unhide HG).1 rfl)
    have y0 := (unhide R1).at (o := 0) (v := .string g) rfl
    have y1 := (unhide R1).at (o := 1) (v := .string m) rfl
    have zy := (unhide R1).lt
    clear HG
    cases hx : gNest g m
    · have FIN := hide (show PChg l (g, m) (ChS l (g, m) add) [] [] from .inr ⟨(fun h => by have := h.2; simp only at this; rw [hx] at this; cases this), rfl, rfl⟩)
      unfold gNest at hx
      cases h1 : isGrp g
      · rw [h1] at q1
        clear hx h1 q2
        go_wp2_with (go_at_call 42; refine (unhide q1 _).mono ?_; rintro e w' ⟨rfl, rfl⟩)
        exact bodyPost_ret (v := .tuple #[.slice none 0 0, .slice none 0 0]) (by simp [results, Try.results58, go_sem]) rfl ⟨⟨_, _, [], [], rfl, unhide FIN, World.ownsRow_nil _ _ _ _, World.ownsRow_nil _ _ _ _, dj_nil _⟩, unhide B1⟩
      · have h2 : goodName m = false := by rw [h1] at hx; simpa using hx
        rw [h1] at q1
        rw [h2] at q2
        clear hx h1 h2
        go_wp2_with (first
          | (go_at_call 42; refine (unhide q1 _).mono ?_; rintro e w' ⟨rfl, rfl⟩)
          | (go_at_call 43; refine (unhide q2 _).mono ?_; rintro e w' ⟨rfl, rfl⟩))
        exact bodyPost_ret (v := .tuple #[.slice none 0 0, .slice none 0 0]) (by simp [results, Try.results58, go_sem]) rfl ⟨⟨_, _, [], [], rfl, unhide FIN, World.ownsRow_nil _ _ _ _, World.ownsRow_nil _ _ _ _, dj_nil _⟩, unhide B1⟩
    · have GN := hide hx
      have h12 : isGrp g = true ∧ goodName m = true := by unfold gNest at hx; simpa using hx
      rw [h12.1] at q1
      rw [h12.2] at q2
      have qw := hide (l5With_any a len cap l g m add w1 (unhide GD) ((unhide HS).keep (unhide B1)) (unhide HO))
      clear hx h12
      go_wp2_with (first
        | (go_at_call 42; refine (unhide q1 _).mono ?_; rintro e w' ⟨rfl, rfl⟩)
        | (go_at_call 43; refine (unhide q2 _).mono ?_; rintro e w' ⟨rfl, rfl⟩))
      refine (unhide qw).mono ?_
      rintro e w3 ⟨⟨v, r, rfl, hT, ho⟩, hb3⟩
      obtain ⟨av, cv, ev, hsv⟩ := own_Nest ho
      subst ev
      have HT := hide hT
      have hrl : r.length ≤ 201 := by have := hT.len; have := (unhide GD).1; omega
      have hokr : ∀ q ∈ r, NestT.Ok q := fun q hq => by
        rcases (hT.mem q).1 hq with ⟨h1, _⟩ | ⟨_, h1⟩
        · exact unhide HO q h1
        · simp only [Prod.mk.injEq] at h1
          exact ⟨by rw [h1.1]; exact hg, by rw [h1.2]; exact hm⟩
      have HOr := hide hokr
      have HSr := hide hsv
      have qg := hide (sGoodNests_any av r.length cv r w3 (by unfold maxLen; omega) hsv hokr)
      have O3 := hide (own_base ho (unhide B1).size)
      have B3 := hide (bTr (unhide B1) hb3)
      clear hT ho hb3 qw hsv hokr q1 q2
      go_wp2_with fail
      refine (unhide qg).mono ?_
      rintro e w4 ⟨⟨gd, rfl, hgd⟩, hb4⟩
      have HG := hide hgd
      have B4 := hide (bTr (unhide B3) hb4)
      have O4 := hide (own_keep (unhide O3) hb4)
      have HS4 := hide ((unhide HSr).keep hb4)
      clear hgd hb4 qg O3 B3 HSr
      cases gd
      · have h201 : 200 < r.length := by
          rcases Nat.lt_or_ge 200 r.length with h | h
          · exact h
          · have := (unhide HG).2 ((unhide HT).good (unhide GD) (unhide GN) h); cases this
        have FIN := hide (show PChg l (g, m) (ChS l (g, m) add) [] [] from .inl ⟨⟨unhide GD, unhide GN⟩, (unhide HT).tn.2 h201, PRea.nil⟩)
        clear HG h201
        go_wp2_with fail
        exact bodyPost_ret (v := .tuple #[.slice none 0 0, .slice none 0 0]) (by simp [results, Try.results58, go_sem]) rfl ⟨⟨_, _, [], [], rfl, unhide FIN, World.ownsRow_nil _ _ _ _, World.ownsRow_nil _ _ _ _, dj_nil _⟩, unhide B4⟩
      · have GR := hide ((unhide HG).1 rfl)
        have qr := hide (l5Reach_any av r.length cv r w4 (unhide GR) (unhide HS4) (unhide HOr))
        clear HG
        go_wp2_with fail
        refine (unhide qr).mono ?_
        rintro e w6 ⟨⟨u, r2, rfl, hP, ho6⟩, hb6⟩
        have FIN := hide (show PChg l (g, m) (ChS l (g, m) add) r r2 ∧ w6.ownsRow w.heap.size 42 2 (.slice av r.length cv) r.length (NestsV r) ∧ w6.ownsRow w.heap.size 70 3 u r2.length (ReachsV r2) ∧ DJ (.slice av r.length cv) u from ⟨.inl ⟨⟨unhide GD, unhide GN⟩, (unhide HT).tn.1 (unhide GR).1, hP⟩, own_keep (unhide O4) hb6, own_base ho6 (unhide B4).size, DJ.of (fun q h => ((unhide O4).lt q h).2) (fun q h => (ho6.lt q h).1)⟩)
        have B6 := hide (bTr (unhide B4) hb6)
        clear hP ho6 hb6 qr O4 B4
        go_wp2_with fail
        exact bodyPost_ret (v := .tuple #[.slice av r.length cv, u]) (by simp [results, Try.results58, go_sem]) rfl ⟨⟨_, _, r, r2, rfl, unhide FIN⟩, unhide B6⟩
end Go.Proofs.Ytakjnbdjjeccoaa
