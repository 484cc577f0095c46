/- The walk of FnSets. -/
import Derived.Test.YtlnmhjihfolliaaFDs
import Derived.Test.YtlnmhjihfolliaaFZv
import Derived.Test.YtlnmhjihfolliaaSSp
import Derived.Test.YtlnmhjihfolliaaSIm
import Derived.Test.YtlnmhjihfolliaaHRg
import Derived.Deep.AppendLies
namespace Go.Proofs.Ytlnmhjihfolliaa.V
open Go.RowKit
set_option maxRecDepth 20000

theorem SetIs.same {l m r : List AtomT} (hg : ∀ x ∈ l, x.good = true) (hr : SetR l r) (h50 : r.length ≤ 50) (hm : ∀ x, x ∈ m ↔ x ∈ l) (hml : m.length ≤ 1000) : SetIs m ⟨2, zA, r, []⟩ :=
  .inr ⟨hml, fun x hx => hg x ((hm x).1 hx), r, ⟨hr.ris, fun x => by rw [hr.mem, hm]⟩, .inl ⟨h50, rfl⟩⟩
theorem mem_two {M l : List AtomT} {D A : AtomT} (h : ∀ x ∈ M, x ∈ l) (hD : D ∈ l) (hA : A ∈ l) : ∀ x ∈ M ++ [D, A], x ∈ l := fun x hx => by
  rcases List.mem_append.1 hx with h1 | h1
  · exact h x h1
  · simp only [List.mem_cons, List.not_mem_nil, or_false] at h1
    rcases h1 with rfl | rfl
    · exact hD
    · exact hA
theorem good_set {l r : List AtomT} (hg : ∀ x ∈ l, x.good = true) (hr : SetR l r) (h50 : r.length ≤ 50) : GoodVal ⟨2, zA, r, []⟩ :=
  (goodVal_2 zA r []).2 ⟨⟨rfl, rfl, by rw [ByteArray.toList_eq], by rw [ByteArray.toList_eq]⟩, h50, all_of (fun x hx => hg x ((hr.mem x).1 hx)), fun i h h0 hk => List.pairwise_iff_getElem.1 hr.ris (i - 1) i (by omega) h (by omega), rfl⟩
theorem ent_sSetOf : HEnt 7 := hent_of Try.func7 (by kernel_rfl) (by kernel_rfl)
theorem ent_iSetOf : HEnt 5 := hent_of Try.func5 (by kernel_rfl) (by kernel_rfl)
theorem ent_zValue : HEnt 6 := hent_of Try.func6 (by kernel_rfl) (by kernel_rfl)
set_option linter.unusedSimpArgs false in
set_option maxHeartbeats 4000000 in
theorem sets_walk (a : Option Addr) (len cap : Nat) (w : World) (hcode : CodeAt w w.heap.size a len) :
    Calls Try.prog 3 #[.slice a len cap] w fun e w' => e = .returned (.bool true) ∧ Below w.heap.size w w' := by
  by_cases hz : 1048576 < len
  · have di : (1048576 : Int) < (len : Int) := by omega
    clear hcode
    go_enter Try.func3, Try.ntmps3
    go_wp2_with fail
    go_ret
    exact ⟨rfl, Below.refl _ _⟩
  have di : ¬ (1048576 : Int) < (len : Int) := by omega
  have q0 := hide (drawSetOf_any a len cap w hcode)
  clear hcode
  go_enter Try.func3, Try.ntmps3
  go_wp2_with fail
  refine (unhide q0).mono ?_
  rintro e w1 ⟨⟨v, l, rfl, ho, hl, hk⟩, hb1⟩
  obtain ⟨al, cl, rfl⟩ := own_sl ho
  have OL := hide ho
  have HK := hide hk
  have B := hide hb1
  have ml : l.length ≤ maxLen := by unfold maxLen; omega
  have q1 := hide (fun w h => iSetOf_any al l.length cl l w ml h (unhide HK))
  have q2 := hide (fun w h => sSetOf_any al l.length cl l w ml h (unhide HK))
  clear ho hk hb1 q0 di hz
  go_wp2_with fail
  refine (unhide q1 _ (sla_own (unhide OL))).mono ?_
  rintro e w2 ⟨⟨v, v1, v2, rfl, ow2, hvi⟩, hb2⟩
  obtain ⟨a1, c1, e1⟩ := own_sl ow2.i
  subst e1
  obtain ⟨a2, c2, e2⟩ := own_sl ow2.n
  subst e2
  obtain ⟨li, ln⟩ := (unhide hvi).len
  have ba := bAl (Below.refl w2.heap.size w2) (.cells #[.int .i64 v.k, .int .i64 v.a.x, .int .i64 v.a.n, .string v.a.t, .string v.a.y, .slice a1 v.items.length c1, .slice a2 v.names.length c2] 29)
  have HR := hide (RowIs.new w2 #[.int .i64 v.k, .int .i64 v.a.x, .int .i64 v.a.n, .string v.a.t, .string v.a.y, .slice a1 v.items.length c1, .slice a2 v.names.length c2] 29)
  have OW := hide (ow2.keep ba)
  replace OL := hide (own_keepT (own_keepT (unhide OL) hb2) ba)
  replace B := hide (bTr (bTr (unhide B) hb2) ba)
  obtain ⟨W2, hW2⟩ : ∃ W, W = w2.alloc (.cells #[.int .i64 v.k, .int .i64 v.a.x, .int .i64 v.a.n, .string v.a.t, .string v.a.y, .slice a1 v.items.length c1, .slice a2 v.names.length c2] 29) := ⟨_, rfl⟩
  have HW := hide hW2.symm
  rw [← hW2] at HR OW OL B
  obtain ⟨bs, hbs⟩ : ∃ b, b = w2.heap.size := ⟨_, rfl⟩
  have HB := hide hbs.symm
  rw [← hbs] at HR
  have m1 : v.items.length ≤ maxLen := by unfold maxLen; omega
  have m2 : v.names.length ≤ maxLen := by unfold maxLen; omega
  have M1 := hide m1
  have M2 := hide m2
  clear hW2 hbs ba ow2 hb2 m1 m2 li ln
  unfold VRet
  go_wp2_with fail
  rw [unhide HW, unhide HB]
  clear HW HB
  have BB : Hid (Below W2.heap.size W2 W2.drew) := hide (Below.refl _ _).drew
  refine wp_region_held_drew (S := fun w' => RowIs w' bs #[.int .i64 v.k, .int .i64 v.a.x, .int .i64 v.a.n, .string v.a.t, .string v.a.y, .slice a1 v.items.length c1, .slice a2 v.names.length c2] 29) (by kernel_rfl) (by exact (unhide HR).keep (unhide BB)) (fun hHeld => ?_)
  refine wpAnyH_take (i := 0) (oi := { dst := some 14, op := Op.load 29 (Operand.tmp 4), type := 29, pos := "laws.go:254", after := #[], guard := none }) (v := .agg #[.int .i64 v.k, .int .i64 v.a.x, .int .i64 v.a.n, .string v.a.t, .string v.a.y, .slice a1 v.items.length c1, .slice a2 v.names.length c2]) rfl (by kernel_rfl) (by kernel_rfl) (by kernel_rfl) (fun _ _ _ h => h) (V.hy_row (by rfl) 29 _ rfl bs rfl 29 _ _ (fun w h => h) Try.underlying29 rfl (by kernel_rfl)) (by assumption) ?_
  simp only [Act.put, List.setIfInBounds_toArray, List.set_cons_zero, List.set_cons_succ]
  refine wpAnyH_take (i := 1) (oi := { dst := some 15, op := Op.move (Operand.tmp 3), type := 23, pos := "laws.go:254", after := #[], guard := none }) (v := .slice al l.length cl) rfl (by kernel_rfl) (by kernel_rfl) (by kernel_rfl) (fun _ _ _ h => h) (Or.inl ⟨by rfl, (by intro w hSw; (try go_simp); (try with_reducible rfl))⟩) (by assumption) ?_
  simp only [Act.put, List.setIfInBounds_toArray, List.set_cons_zero, List.set_cons_succ]
  refine wpAnyH_ready (rs := [2]) (by kernel_rfl) (by simp) ?_
  refine AllReadyH.cons (o := { dst := some 16, op := Op.call { callee := Callee.value (Operand.func 7), args := #[Operand.tmp 15], argTypes := #[23] }, type := 29, pos := "laws.go:254", after := #[{ on := 1, ground := Ground.data }], guard := none }) rfl (fun K hK => ?_) AllReadyH.nil
  try clear hHeld
  refine V.hcall1 _ (by rfl) 7 _ _ (by rfl) (.slice al l.length cl) (by rfl) ent_sSetOf (unhide q2 _ (sla_own (own_keepT (unhide OL) (unhide BB)))) ?_
  rintro e x1 ⟨⟨v', u1, u2, rfl, ow, hv'⟩, hb⟩
  obtain rfl : v = v' := (unhide hvi).uniq (unhide hv')
  obtain ⟨b1, d1, e1⟩ := own_sl ow.i
  subst e1
  obtain ⟨b2, d2, e2⟩ := own_sl ow.n
  subst e2
  unfold VRet
  have OX := hide ow
  replace BB := hide (bTr (unhide BB) hb)
  clear ow hb hv'
  refine ⟨_, rfl, ?_⟩
  refine hK.out _ _ (by exact (unhide HR).keep (unhide BB)) (fun hHeld => ?_)
  clear hK
  simp only [Act.put, List.setIfInBounds_toArray, List.set_cons_zero, List.set_cons_succ]
  refine wpAnyH_ready (rs := [3]) (by kernel_rfl) (by simp) ?_
  refine AllReadyH.cons (o := { dst := some 17, op := Op.call { callee := Callee.value (Operand.func 6), args := #[Operand.tmp 14, Operand.tmp 16], argTypes := #[29, 29] }, type := 4, pos := "laws.go:254", after := #[{ on := 0, ground := Ground.data }, { on := 2, ground := Ground.data }, { on := 2, ground := Ground.chain }], guard := none }) rfl (fun K hK => ?_) AllReadyH.nil
  try clear hHeld
  refine V.hcall2 _ (by rfl) 6 _ _ _ (by rfl) (.agg #[.int .i64 v.k, .int .i64 v.a.x, .int .i64 v.a.n, .string v.a.t, .string v.a.y, .slice a1 v.items.length c1, .slice a2 v.names.length c2]) (.agg #[.int .i64 v.k, .int .i64 v.a.x, .int .i64 v.a.n, .string v.a.t, .string v.a.y, .slice b1 v.items.length d1, .slice b2 v.names.length d2]) (by rfl) (by rfl) ent_zValue (zValue_same v a1 a2 b1 b2 _ c1 _ c2 _ d1 _ d2 _ (unhide M1) (unhide M2) (sla_own (own_keepT (unhide OW).i (unhide BB))) (sls_own (own_keepT (unhide OW).n (unhide BB))) (sla_own (unhide OX).i) (sls_own (unhide OX).n)) ?_
  rintro e x2 ⟨rfl, hb⟩
  replace BB := hide (bTr (unhide BB) hb)
  clear hb OX
  refine ⟨_, rfl, ?_⟩
  refine hK.out _ _ (by exact (unhide HR).keep (unhide BB)) (fun hHeld => ?_)
  clear hK
  simp only [Act.put, List.setIfInBounds_toArray, List.set_cons_zero, List.set_cons_succ]
  refine wpAnyH_ready (rs := [4]) (by kernel_rfl) (by simp) ?_
  refine AllReadyH.cons (o := { dst := some 18, op := Op.unOp UnOp.not 4 (Operand.tmp 17), type := 4, pos := "laws.go:254", after := #[{ on := 3, ground := Ground.data }], guard := none }) rfl (fun K hK => ?_) AllReadyH.nil
  try clear hHeld
  rw [if_pos (by rfl)]
  have HK := hide hK
  clear hK
  go_wp2_with fail
  refine (unhide HK).out _ _ (by exact (unhide HR).keep (unhide BB)) (fun hHeld => ?_)
  clear HK
  refine wpAnyH_done (by kernel_rfl) ?_ _
  clear hHeld
  try simp only [Act.put, List.setIfInBounds_toArray, List.set_cons_zero, List.set_cons_succ]
  replace HR := hide ((unhide HR).keep (unhide BB))
  replace OW := hide ((unhide OW).keep (unhide BB))
  replace OL := hide (own_keepT (unhide OL) (unhide BB))
  replace B := hide (bTr (unhide B) (unhide BB))
  clear BB
  have hl2 : ¬ (400 : Int) < (l.length : Int) := by omega
  rcases (unhide hvi : SetIs l v) with ⟨_, rfl⟩ | ⟨_, hg, r, hr, ⟨h50, rfl⟩ | ⟨_, rfl⟩⟩
  · have k0 := (unhide HR).at (o := 0) (v := .int .i64 0) rfl
    go_wp2_with fail
    go_ret
    exact ⟨rfl, unhide B⟩
  rotate_left
  · have k0 := (unhide HR).at (o := 0) (v := .int .i64 0) rfl
    go_wp2_with fail
    go_ret
    exact ⟨rfl, unhide B⟩
  have k0 := (unhide HR).at (o := 0) (v := .int .i64 2) rfl
  have HG := hide hg
  have HRR := hide hr
  clear hg hr hvi
  obtain ⟨i0, hi, hz0, hz1, hz2⟩ := info_parts info_atomD
  have zb := hide (unhide HR).lt
  go_wp2_with fail
  clear k0
  go_loopw [5, 29] (fun v i wr => ∃ (k : Nat) (M : List AtomT), k ≤ l.length ∧ i = .int .i64 k ∧ M.length = 2 * k ∧ Hid (wr.ownsRow x2.heap.size 26 4 v M.length (atomsV M)) ∧ Hid (Below x2.heap.size x2 wr) ∧ Hid (∀ x ∈ M, x ∈ l) ∧ Hid (∀ (i : Nat) (h : i < l.length), i < k → l[i] ∈ M)) (fun _ i _ => l.length - (intOf i).toNat)
  case atStart => exact ⟨0, [], Nat.zero_le _, rfl, rfl, hide (World.ownsRow_nil _ _ _ _), hide (Below.refl _ _), hide (by simp), hide (fun i _ h => absurd h (Nat.not_lt_zero _))⟩
  case round =>
    obtain ⟨k, M, hk, rfl, hM, hO, hB, hin, hall⟩ := hrel
    obtain ⟨a3, cap3, e3⟩ := own_sl (unhide hO)
    subst e3
    have OLr := hide (own_keepT (unhide OL) (unhide hB))
    by_cases hlt : k < l.length
    · obtain ⟨gl, rfl⟩ : ∃ g, al = some ⟨g, 0, none⟩ := by
        rcases (unhide OLr).2 with ⟨e, e2⟩ | ⟨g, _, _, e, _⟩
        · omega
        · cases e; exact ⟨g, rfl⟩
      obtain ⟨j, hj⟩ : ∃ j : Nat, j = l.length - 1 - k := ⟨_, rfl⟩
      have hj2 : j < l.length := by omega
      have wr1 : IntKind.i64.wrap ((l.length : Int) - 1) = (l.length : Int) - 1 := by rw [IntKind.wrap_i64]; omega
      have wr2 : IntKind.i64.wrap ((l.length : Int) - 1 - (k : Int)) = (j : Int) := by rw [IntKind.wrap_i64]; omega
      have i0' : (0 : Int) ≤ (k : Int) := by omega
      have i1 : (k : Int) < (l.length : Int) := by omega
      have i2 : (0 : Int) ≤ (j : Int) := by omega
      have i3 : (j : Int) < (l.length : Int) := by omega
      obtain ⟨p0, p1, p2, p3⟩ := own_four (unhide OLr) rfl k hlt
      obtain ⟨q0, q1', q2', q3⟩ := own_four (unhide OLr) rfl j hj2
      have gb : gl < x2.heap.size := ((unhide OL).lt gl rfl).2
      have KC := hide (show ∀ w' : World, (∀ (c : Nat) (u : Value), wr.cell? ⟨gl, c, none⟩ = some u → w'.cell? ⟨gl, c, none⟩ = some u) → (w'.cell? ⟨gl, j * 4, none⟩ = some (.int .i64 l[j].x) ∧ w'.cell? ⟨gl, j * 4 + 1, none⟩ = some (.int .i64 l[j].n) ∧ w'.cell? ⟨gl, j * 4 + 2, none⟩ = some (.string l[j].t) ∧ w'.cell? ⟨gl, j * 4 + 3, none⟩ = some (.string l[j].y) ∧ w'.cell? ⟨gl, k * 4, none⟩ = some (.int .i64 l[k].x) ∧ w'.cell? ⟨gl, k * 4 + 1, none⟩ = some (.int .i64 l[k].n) ∧ w'.cell? ⟨gl, k * 4 + 2, none⟩ = some (.string l[k].t) ∧ w'.cell? ⟨gl, k * 4 + 3, none⟩ = some (.string l[k].y)) from fun w' h => ⟨h _ _ q0, h _ _ q1', h _ _ q2', h _ _ q3, h _ _ p0, h _ _ p1, h _ _ p2, h _ _ p3⟩)
      have hA := hide (List.getElem_mem hlt)
      have hD := hide (List.getElem_mem hj2)
      have hn := hide (show ∀ M' : List AtomT, (∀ x ∈ M, x ∈ M') → l[k] ∈ M' → ∀ (i : Nat) (h : i < l.length), i < k + 1 → l[i] ∈ M' from fun M' h1 h2 i h hi => by
        by_cases e : i = k
        · subst e; exact h2
        · exact h1 _ (unhide hall i h (by omega)))
      generalize l[k] = A at p0 p1 p2 p3 KC hA hn
      generalize l[j] = D at q0 q1' q2' q3 KC hD
      clear hj
      have t5 : (M.length + 2) * 48 ≤ 140737488355328 := by omega
      have zx := hide (unhide hB).size
      go_wp2_with fail
      skip
      have P8 := unhide KC wr (fun c u h => h)
      refine wp_region_held_drew (S := fun w' => w'.cell? ⟨gl, j * 4, none⟩ = some (.int .i64 D.x) ∧ w'.cell? ⟨gl, j * 4 + 1, none⟩ = some (.int .i64 D.n) ∧ w'.cell? ⟨gl, j * 4 + 2, none⟩ = some (.string D.t) ∧ w'.cell? ⟨gl, j * 4 + 3, none⟩ = some (.string D.y) ∧ w'.cell? ⟨gl, k * 4, none⟩ = some (.int .i64 A.x) ∧ w'.cell? ⟨gl, k * 4 + 1, none⟩ = some (.int .i64 A.n) ∧ w'.cell? ⟨gl, k * 4 + 2, none⟩ = some (.string A.t) ∧ w'.cell? ⟨gl, k * 4 + 3, none⟩ = some (.string A.y)) (by kernel_rfl) (by exact P8) (fun hHeld => ?_)
      refine wpAnyH_take (i := 0) (oi := { dst := some 32, op := Op.move (Operand.tmp 5), type := 23, pos := "laws.go:262", after := #[], guard := none }) (v := .slice a3 M.length cap3) rfl (by kernel_rfl) (by kernel_rfl) (by kernel_rfl) (fun _ _ _ h => h) (Or.inl ⟨by rfl, (by intro w hSw; (try go_simp); (try with_reducible rfl))⟩) (by assumption) ?_
      simp only [Act.put, List.setIfInBounds_toArray, List.set_cons_zero, List.set_cons_succ]
      refine wpAnyH_take (i := 1) (oi := { dst := some 33, op := Op.move (Operand.tmp 3), type := 23, pos := "laws.go:262", after := #[], guard := none }) (v := .slice (some ⟨gl, 0, none⟩) l.length cl) rfl (by kernel_rfl) (by kernel_rfl) (by kernel_rfl) (fun _ _ _ h => h) (Or.inl ⟨by rfl, (by intro w hSw; (try go_simp); (try with_reducible rfl))⟩) (by assumption) ?_
      simp only [Act.put, List.setIfInBounds_toArray, List.set_cons_zero, List.set_cons_succ]
      refine wpAnyH_take (i := 2) (oi := { dst := some 34, op := Op.move (Operand.tmp 3), type := 23, pos := "laws.go:262", after := #[], guard := none }) (v := .slice (some ⟨gl, 0, none⟩) l.length cl) rfl (by kernel_rfl) (by kernel_rfl) (by kernel_rfl) (fun _ _ _ h => h) (Or.inl ⟨by rfl, (by intro w hSw; (try go_simp); (try with_reducible rfl))⟩) (by assumption) ?_
      simp only [Act.put, List.setIfInBounds_toArray, List.set_cons_zero, List.set_cons_succ]
      refine wpAnyH_take (i := 3) (oi := { dst := some 35, op := Op.call { callee := Callee.builtin Builtin.len, args := #[Operand.tmp 34], argTypes := #[23] }, type := 3, pos := "laws.go:262", after := #[{ on := 2, ground := Ground.data }], guard := none }) (v := .int .i64 (l.length : Int)) rfl (by kernel_rfl) (by kernel_rfl) (by kernel_rfl) (fun _ _ _ h => h) (Or.inl ⟨by rfl, (by intro w hSw; (try go_simp); (try with_reducible rfl))⟩) (by assumption) ?_
      simp only [Act.put, List.setIfInBounds_toArray, List.set_cons_zero, List.set_cons_succ]
      refine wpAnyH_take (i := 4) (oi := { dst := some 36, op := Op.binOp BinOp.sub 3 (Operand.tmp 35) (Operand.const (Value.int IntKind.i64 1)) 3, type := 3, pos := "laws.go:262", after := #[{ on := 3, ground := Ground.data }], guard := none }) (v := .int .i64 ((l.length : Int) - 1)) rfl (by kernel_rfl) (by kernel_rfl) (by kernel_rfl) (fun _ _ _ h => h) (Or.inl ⟨by rfl, (by intro w hSw; (try go_simp); (try with_reducible rfl))⟩) (by assumption) ?_
      simp only [Act.put, List.setIfInBounds_toArray, List.set_cons_zero, List.set_cons_succ]
      refine wpAnyH_take (i := 5) (oi := { dst := some 37, op := Op.move (Operand.tmp 6), type := 3, pos := "laws.go:262", after := #[], guard := none }) (v := .int .i64 (k : Int)) rfl (by kernel_rfl) (by kernel_rfl) (by kernel_rfl) (fun _ _ _ h => h) (Or.inl ⟨by rfl, (by intro w hSw; (try go_simp); (try with_reducible rfl))⟩) (by assumption) ?_
      simp only [Act.put, List.setIfInBounds_toArray, List.set_cons_zero, List.set_cons_succ]
      refine wpAnyH_take (i := 6) (oi := { dst := some 38, op := Op.binOp BinOp.sub 3 (Operand.tmp 36) (Operand.tmp 37) 3, type := 3, pos := "laws.go:262", after := #[{ on := 4, ground := Ground.data }, { on := 5, ground := Ground.data }], guard := none }) (v := .int .i64 (j : Int)) rfl (by kernel_rfl) (by kernel_rfl) (by kernel_rfl) (fun _ _ _ h => h) (Or.inl ⟨by rfl, (by intro w hSw; (try go_simp); (try with_reducible rfl))⟩) (by assumption) ?_
      simp only [Act.put, List.setIfInBounds_toArray, List.set_cons_zero, List.set_cons_succ]
      refine wpAnyH_take (i := 7) (oi := { dst := some 39, op := Op.indexAddr 23 (Operand.tmp 33) (Operand.tmp 38), type := 0, pos := "laws.go:262", after := #[{ on := 1, ground := Ground.data }, { on := 6, ground := Ground.data }], guard := none }) (v := .pointer (some ⟨gl, j * 4, none⟩)) rfl (by kernel_rfl) (by kernel_rfl) (by kernel_rfl) (fun _ _ _ h => h) (Or.inl ⟨by rfl, (by intro w hSw; (try go_simp); (try with_reducible rfl))⟩) (by assumption) ?_
      simp only [Act.put, List.setIfInBounds_toArray, List.set_cons_zero, List.set_cons_succ]
      refine wpAnyH_take (i := 8) (oi := { dst := some 40, op := Op.load 26 (Operand.tmp 39), type := 26, pos := "laws.go:262", after := #[{ on := 7, ground := Ground.data }], guard := none }) (v := .agg #[.int .i64 D.x, .int .i64 D.n, .string D.t, .string D.y]) rfl (by kernel_rfl) (by kernel_rfl) (by kernel_rfl) (fun _ _ _ h => h) (yieldsIf_load_mid (by rfl) 26 _ rfl gl (j * 4) rfl [.int .i64 D.x, .int .i64 D.n, .string D.t, .string D.y] _ (fun w h => range4 h.1 h.2.1 h.2.2.1 h.2.2.2.1) Try.underlying26 rfl (by kernel_rfl)) (by assumption) ?_
      simp only [Act.put, List.setIfInBounds_toArray, List.set_cons_zero, List.set_cons_succ]
      refine wpAnyH_take (i := 9) (oi := { dst := some 41, op := Op.move (Operand.tmp 3), type := 23, pos := "laws.go:262", after := #[], guard := none }) (v := .slice (some ⟨gl, 0, none⟩) l.length cl) rfl (by kernel_rfl) (by kernel_rfl) (by kernel_rfl) (fun _ _ _ h => h) (Or.inl ⟨by rfl, (by intro w hSw; (try go_simp); (try with_reducible rfl))⟩) (by assumption) ?_
      simp only [Act.put, List.setIfInBounds_toArray, List.set_cons_zero, List.set_cons_succ]
      refine wpAnyH_take (i := 10) (oi := { dst := some 42, op := Op.move (Operand.tmp 6), type := 3, pos := "laws.go:262", after := #[], guard := none }) (v := .int .i64 (k : Int)) rfl (by kernel_rfl) (by kernel_rfl) (by kernel_rfl) (fun _ _ _ h => h) (Or.inl ⟨by rfl, (by intro w hSw; (try go_simp); (try with_reducible rfl))⟩) (by assumption) ?_
      simp only [Act.put, List.setIfInBounds_toArray, List.set_cons_zero, List.set_cons_succ]
      refine wpAnyH_take (i := 11) (oi := { dst := some 43, op := Op.indexAddr 23 (Operand.tmp 41) (Operand.tmp 42), type := 0, pos := "laws.go:262", after := #[{ on := 9, ground := Ground.data }, { on := 10, ground := Ground.data }], guard := none }) (v := .pointer (some ⟨gl, k * 4, none⟩)) rfl (by kernel_rfl) (by kernel_rfl) (by kernel_rfl) (fun _ _ _ h => h) (Or.inl ⟨by rfl, (by intro w hSw; (try go_simp); (try with_reducible rfl))⟩) (by assumption) ?_
      simp only [Act.put, List.setIfInBounds_toArray, List.set_cons_zero, List.set_cons_succ]
      refine wpAnyH_take (i := 12) (oi := { dst := some 44, op := Op.load 26 (Operand.tmp 43), type := 26, pos := "laws.go:262", after := #[{ on := 11, ground := Ground.data }], guard := none }) (v := .agg #[.int .i64 A.x, .int .i64 A.n, .string A.t, .string A.y]) rfl (by kernel_rfl) (by kernel_rfl) (by kernel_rfl) (fun _ _ _ h => h) (yieldsIf_load_mid (by rfl) 26 _ rfl gl (k * 4) rfl [.int .i64 A.x, .int .i64 A.n, .string A.t, .string A.y] _ (fun w h => range4 h.2.2.2.2.1 h.2.2.2.2.2.1 h.2.2.2.2.2.2.1 h.2.2.2.2.2.2.2) Try.underlying26 rfl (by kernel_rfl)) (by assumption) ?_
      simp only [Act.put, List.setIfInBounds_toArray, List.set_cons_zero, List.set_cons_succ]
      refine wpAnyH_ready (rs := [13]) (by kernel_rfl) (by simp) ?_
      refine AllReadyH.cons (o := { dst := some 45, op := Op.buildSlice 23 2 #[(0, Operand.tmp 40), (1, Operand.tmp 44)], type := 23, pos := "laws.go:262", after := #[{ on := 8, ground := Ground.data }, { on := 12, ground := Ground.data }], guard := none }) rfl (fun K hK => ?_) AllReadyH.nil
      try clear hHeld
      rw [if_pos (by rfl)]
      have HK := hide hK
      clear hK
      go_wp2_with fail
      refine (unhide HK).out _ _ (by exact unhide KC _ (fun c u hc => cellB (bAl (Below.refl _ _).drew _) (World.block_lt_of_cell? wr ⟨gl, c, none⟩ hc) hc)) (fun hHeld => ?_)
      clear HK
      try simp only [Act.put, List.setIfInBounds_toArray, List.set_cons_zero, List.set_cons_succ]
      refine wpAnyH_ready (rs := [14]) (by kernel_rfl) (by simp) ?_
      refine AllReadyH.cons (o := { dst := some 46, op := Op.call { callee := Callee.builtin Builtin.append, args := #[Operand.tmp 32, Operand.tmp 45], argTypes := #[23, 23] }, type := 23, pos := "laws.go:262", after := #[{ on := 0, ground := Ground.data }, { on := 13, ground := Ground.data }], guard := none }) rfl (fun K hK => ?_) AllReadyH.nil
      try clear hHeld
      refine step_append_lies _ (by rfl) _ _ _ (by rfl) x2.heap.size 26 i0 _ 4 48 Try.underlying23 hi hz0 hz1 hz2 rfl (by omega) (.slice a3 M.length cap3) M.length (atomsV M) (by rfl) ((unhide hO).drew.alloc _) ⟨wr.heap.size, 0, none⟩ 2 2 [.int .i64 D.x, .int .i64 D.n, .string D.t, .string D.y, .int .i64 A.x, .int .i64 A.n, .string A.t, .string A.y] (by rfl) (by rfl) (World.news_of_block (cs := #[.int .i64 D.x, .int .i64 D.n, .string D.t, .string D.y, .int .i64 A.x, .int .i64 A.n, .string A.t, .string A.y]) (t := 26) (fr := (0, 0)) (heap_alloc_new wr.drew _)) (by simp [Value.oneCell']) (by omega) (by unfold maxLen; omega) t5 (by have := unhide zx; simp; omega) (wr.heap.size + 1) (by simp) ?_
      intro g4 cp4 w4 hown4 hgrow4 hat4 hlt4
      have S3 := hide (unhide KC w4 (fun c u hc => hgrow4.cell (a := ⟨gl, c, none⟩) (cellB (bAl (Below.refl _ _).drew _) (World.block_lt_of_cell? wr ⟨gl, c, none⟩ hc) hc) (fun e => by have := ((unhide hO).lt gl e.symm).1; omega)))
      have B4 := hide ((bAl (unhide hB).drew (.cells #[.int .i64 D.x, .int .i64 D.n, .string D.t, .string D.y, .int .i64 A.x, .int .i64 A.n, .string A.t, .string A.y] 26)).grown hgrow4 (by have := unhide zx; simp; omega) (fun j hj => ((unhide hO).lt j hj).1))
      have O4 := hide (show w4.ownsRow x2.heap.size 26 4 (.slice (some ⟨g4, 0, none⟩) (M.length + 2) cp4) (M ++ [D, A]).length (atomsV (M ++ [D, A])) by rw [List.length_append]; simpa [atomsV, cellsA] using hown4)
      clear hown4 hgrow4 hat4 hlt4 P8
      refine hK.out _ _ (by exact unhide S3) (fun hHeld => ?_)
      clear hK
      simp only [Act.put, List.setIfInBounds_toArray, List.set_cons_zero, List.set_cons_succ]
      refine wpAnyH_ready (rs := [15]) (by kernel_rfl) (by simp) ?_
      refine AllReadyH.cons (o := { dst := some 5, op := Op.assign (Operand.tmp 46), type := 23, pos := "laws.go:262", after := #[{ on := 14, ground := Ground.data }, { on := 14, ground := Ground.chain }, { on := 0, ground := Ground.phase }, { on := 1, ground := Ground.phase }, { on := 2, ground := Ground.phase }, { on := 3, ground := Ground.phase }, { on := 4, ground := Ground.phase }, { on := 5, ground := Ground.phase }, { on := 6, ground := Ground.phase }, { on := 7, ground := Ground.phase }, { on := 8, ground := Ground.phase }, { on := 9, ground := Ground.phase }, { on := 10, ground := Ground.phase }, { on := 11, ground := Ground.phase }, { on := 12, ground := Ground.phase }, { on := 13, ground := Ground.phase }, { on := 14, ground := Ground.phase }], guard := none }) rfl (fun K hK => ?_) AllReadyH.nil
      try clear hHeld
      rw [if_pos (by rfl)]
      have HK := hide hK
      clear hK
      go_wp2_with fail
      refine (unhide HK).out _ _ (by exact unhide S3) (fun hHeld => ?_)
      clear HK
      refine wpAnyH_done (by kernel_rfl) ?_ _
      clear hHeld
      try simp only [Act.put, List.setIfInBounds_toArray, List.set_cons_zero, List.set_cons_succ]
      clear S3
      go_wp2_with fail
      exact ⟨⟨k + 1, M ++ [D, A], by omega, by go_num, by simp; omega, O4, B4, hide (mem_two (unhide hin) (unhide hD) (unhide hA)), hide (unhide hn _ (fun x hx => List.mem_append_left _ hx) (by simp))⟩, by simp [intOf]; omega⟩
    · have e : k = l.length := by omega
      subst e
      clear hlt
      have ME := hide (show ∀ x, x ∈ M ↔ x ∈ l from fun x => ⟨unhide hin x, fun hx => by obtain ⟨i, hi, rfl⟩ := List.getElem_of_mem hx; exact unhide hall i hi hi⟩)
      clear hin hall OLr
      have HV := hide (show SetIs M ⟨2, zA, r, []⟩ from SetIs.same (unhide HG) (unhide HRR) h50 (unhide ME) (by omega))
      have OKM := hide (show ∀ q ∈ M, AtomT.Ok q from fun q hq => unhide HK q ((unhide ME q).1 hq))
      have mM : M.length ≤ maxLen := by unfold maxLen; omega
      have q3 := hide (fun w h => iSetOf_any a3 M.length cap3 M w mM h (unhide OKM))
      have HR2 : Hid (RowIs wr bs #[.int .i64 2, .int .i64 0, .int .i64 0, .string ⟨#[]⟩, .string ⟨#[]⟩, .slice a1 r.length c1, .slice a2 0 c2] 29) := hide ((unhide HR).keep (unhide hB))
      replace OW := hide ((unhide OW).keep (unhide hB))
      replace B := hide (bTr (unhide B) (unhide hB))
      have HG' := HG
      clear HR OL q1 q2 hB HG ME
      have OKR := hide (show ∀ q ∈ r, AtomT.Ok q from fun q hq => unhide HK q (((unhide HRR).mem q).1 hq))
      have GV : Hid (GoodVal ⟨2, zA, r, []⟩) := hide (good_set (unhide HG') (unhide HRR) h50)
      have VOK : Hid (ValT.Ok ⟨2, zA, r, []⟩) := hide ⟨zA_ok, unhide OKR, by simp⟩
      go_wp2_with fail
      have BB : Hid (Below wr.heap.size wr wr.drew) := hide (Below.refl _ _).drew
      refine wp_region_held_drew (S := fun w' => RowIs w' bs #[.int .i64 2, .int .i64 0, .int .i64 0, .string ⟨#[]⟩, .string ⟨#[]⟩, .slice a1 r.length c1, .slice a2 0 c2] 29) (by kernel_rfl) (by exact (unhide HR2).keep (unhide BB)) (fun hHeld => ?_)
      refine wpAnyH_take (i := 0) (oi := { dst := some 48, op := Op.move (Operand.tmp 5), type := 23, pos := "laws.go:264", after := #[], guard := none }) (v := .slice a3 M.length cap3) rfl (by kernel_rfl) (by kernel_rfl) (by kernel_rfl) (fun _ _ _ h => h) (Or.inl ⟨by rfl, (by intro w hSw; (try go_simp); (try with_reducible rfl))⟩) (by assumption) ?_
      simp only [Act.put, List.setIfInBounds_toArray, List.set_cons_zero, List.set_cons_succ]
      refine wpAnyH_take (i := 2) (oi := { dst := some 50, op := Op.load 29 (Operand.tmp 4), type := 29, pos := "laws.go:264", after := #[], guard := none }) (v := .agg #[.int .i64 2, .int .i64 0, .int .i64 0, .string ⟨#[]⟩, .string ⟨#[]⟩, .slice a1 r.length c1, .slice a2 0 c2]) rfl (by kernel_rfl) (by kernel_rfl) (by kernel_rfl) (fun _ _ _ h => h) (V.hy_row (by rfl) 29 _ rfl bs rfl 29 _ _ (fun w h => h) Try.underlying29 rfl (by kernel_rfl)) (by assumption) ?_
      simp only [Act.put, List.setIfInBounds_toArray, List.set_cons_zero, List.set_cons_succ]
      refine wpAnyH_ready (rs := [1]) (by kernel_rfl) (by simp) ?_
      refine AllReadyH.cons (o := { dst := some 49, op := Op.call { callee := Callee.value (Operand.func 5), args := #[Operand.tmp 48], argTypes := #[23] }, type := 29, pos := "laws.go:264", after := #[{ on := 0, ground := Ground.data }], guard := none }) rfl (fun K hK => ?_) AllReadyH.nil
      try clear hHeld
      refine V.hcall1 _ (by rfl) 5 _ _ (by rfl) (.slice a3 M.length cap3) (by rfl) ent_iSetOf (unhide q3 _ (sla_own (own_keepT (unhide hO) (unhide BB)))) ?_
      rintro e y1 ⟨⟨v', u1, u2, rfl, ow, hv'⟩, hb⟩
      obtain rfl : (⟨2, zA, r, []⟩ : ValT) = v' := (unhide HV).uniq (unhide hv')
      obtain ⟨e1', f1', e1⟩ := own_sl ow.i
      subst e1
      obtain ⟨e2', f2', e2⟩ := own_sl ow.n
      subst e2
      unfold VRet
      have OX := hide ow
      replace BB := hide (bTr (unhide BB) hb)
      clear ow hb hv'
      refine ⟨_, rfl, ?_⟩
      refine hK.out _ _ (by exact (unhide HR2).keep (unhide BB)) (fun hHeld => ?_)
      clear hK
      simp only [Act.put, List.setIfInBounds_toArray, List.set_cons_zero, List.set_cons_succ]
      refine wpAnyH_ready (rs := [3]) (by kernel_rfl) (by simp) ?_
      refine AllReadyH.cons (o := { dst := some 51, op := Op.call { callee := Callee.value (Operand.func 6), args := #[Operand.tmp 49, Operand.tmp 50], argTypes := #[29, 29] }, type := 4, pos := "laws.go:264", after := #[{ on := 1, ground := Ground.data }, { on := 2, ground := Ground.data }, { on := 1, ground := Ground.chain }], guard := none }) rfl (fun K hK => ?_) AllReadyH.nil
      try clear hHeld
      refine V.hcall2 _ (by rfl) 6 _ _ _ (by rfl) (.agg #[.int .i64 2, .int .i64 0, .int .i64 0, .string ⟨#[]⟩, .string ⟨#[]⟩, .slice e1' r.length f1', .slice e2' 0 f2']) (.agg #[.int .i64 2, .int .i64 0, .int .i64 0, .string ⟨#[]⟩, .string ⟨#[]⟩, .slice a1 r.length c1, .slice a2 0 c2]) (by rfl) (by rfl) ent_zValue (zValue_same ⟨2, zA, r, []⟩ e1' e2' a1 a2 _ f1' _ f2' _ c1 _ c2 _ (unhide M1) (unhide M2) (sla_own (unhide OX).i) (sls_own (unhide OX).n) (sla_own (own_keepT (unhide OW).i (unhide BB))) (sls_own (own_keepT (unhide OW).n (unhide BB)))) ?_
      rintro e y2 ⟨rfl, hb⟩
      replace BB := hide (bTr (unhide BB) hb)
      clear hb OX
      refine ⟨_, rfl, ?_⟩
      refine hK.out _ _ (by exact (unhide HR2).keep (unhide BB)) (fun hHeld => ?_)
      clear hK
      simp only [Act.put, List.setIfInBounds_toArray, List.set_cons_zero, List.set_cons_succ]
      refine wpAnyH_ready (rs := [4]) (by kernel_rfl) (by simp) ?_
      refine AllReadyH.cons (o := { dst := some 52, op := Op.unOp UnOp.not 4 (Operand.tmp 51), type := 4, pos := "laws.go:264", after := #[{ on := 3, ground := Ground.data }], guard := none }) rfl (fun K hK => ?_) AllReadyH.nil
      try clear hHeld
      rw [if_pos (by rfl)]
      have HK := hide hK
      clear hK
      go_wp2_with fail
      refine (unhide HK).out _ _ (by exact (unhide HR2).keep (unhide BB)) (fun hHeld => ?_)
      clear HK
      try simp only [Act.put, List.setIfInBounds_toArray, List.set_cons_zero, List.set_cons_succ]
      refine wpAnyH_ready (rs := [5]) (by kernel_rfl) (by simp) ?_
      refine AllReadyH.cons (o := { dst := some 53, op := Op.move (Operand.tmp 52), type := 4, pos := "laws.go:264", after := #[{ on := 4, ground := Ground.data }, { on := 3, ground := Ground.chain }], guard := none }) rfl (fun K hK => ?_) AllReadyH.nil
      try clear hHeld
      rw [if_pos (by rfl)]
      have HK := hide hK
      clear hK
      go_wp2_with fail
      refine (unhide HK).out _ _ (by exact (unhide HR2).keep (unhide BB)) (fun hHeld => ?_)
      clear HK
      try simp only [Act.put, List.setIfInBounds_toArray, List.set_cons_zero, List.set_cons_succ]
      refine wpAnyH_take (i := 6) (oi := { dst := some 54, op := Op.load 29 (Operand.tmp 4), type := 29, pos := "laws.go:264", after := #[{ on := 5, ground := Ground.guard }], guard := some (5, false) }) (v := .agg #[.int .i64 2, .int .i64 0, .int .i64 0, .string ⟨#[]⟩, .string ⟨#[]⟩, .slice a1 r.length c1, .slice a2 0 c2]) rfl (by kernel_rfl) (by kernel_rfl) (by kernel_rfl) (fun _ _ _ h => h) (V.hy_row (by rfl) 29 _ rfl bs rfl 29 _ _ (fun w h => h) Try.underlying29 rfl (by kernel_rfl)) (by assumption) ?_
      simp only [Act.put, List.setIfInBounds_toArray, List.set_cons_zero, List.set_cons_succ]
      refine wpAnyH_ready (rs := [7]) (by kernel_rfl) (by simp) ?_
      refine AllReadyH.cons (o := { dst := some 55, op := Op.call { callee := Callee.value (Operand.func 8), args := #[Operand.tmp 54], argTypes := #[29] }, type := 4, pos := "laws.go:264", after := #[{ on := 6, ground := Ground.data }, { on := 5, ground := Ground.chain }, { on := 5, ground := Ground.guard }], guard := some (5, false) }) rfl (fun K hK => ?_) AllReadyH.nil
      try clear hHeld
      rw [if_pos (by rfl)]
      have HKK := hide hK
      clear hK
      go_wp2_with fail
      refine (sGoodValue_any ⟨2, zA, r, []⟩ (unhide VOK) a1 a2 r.length c1 0 c2 _ (sla_own (own_keepT (unhide OW).i (unhide BB))) (sls_own (own_keepT (unhide OW).n (unhide BB)))).mono ?_
      rintro e y3 ⟨⟨g, rfl, hg⟩, hb⟩
      obtain rfl : g = true := hg.2 (unhide GV)
      replace BB := hide (bTr (unhide BB) hb)
      clear hb hg
      refine (unhide HKK).out _ _ (by exact (unhide HR2).keep (unhide BB)) (fun hHeld => ?_)
      clear HKK
      try simp only [Act.put, List.setIfInBounds_toArray, List.set_cons_zero, List.set_cons_succ]
      refine wpAnyH_ready (rs := [8]) (by kernel_rfl) (by simp) ?_
      refine AllReadyH.cons (o := { dst := some 56, op := Op.unOp UnOp.not 4 (Operand.tmp 55), type := 4, pos := "laws.go:264", after := #[{ on := 7, ground := Ground.data }, { on := 5, ground := Ground.guard }], guard := some (5, false) }) rfl (fun K hK => ?_) AllReadyH.nil
      try clear hHeld
      rw [if_pos (by rfl)]
      have HK := hide hK
      clear hK
      go_wp2_with fail
      refine (unhide HK).out _ _ (by exact (unhide HR2).keep (unhide BB)) (fun hHeld => ?_)
      clear HK
      try simp only [Act.put, List.setIfInBounds_toArray, List.set_cons_zero, List.set_cons_succ]
      refine wpAnyH_ready (rs := [9]) (by kernel_rfl) (by simp) ?_
      refine AllReadyH.cons (o := { dst := some 57, op := Op.pick (Operand.tmp 53) (Operand.const (Value.bool true)) (Operand.tmp 56), type := 4, pos := "laws.go:264", after := #[{ on := 5, ground := Ground.data }, { on := 8, ground := Ground.data }], guard := none }) rfl (fun K hK => ?_) AllReadyH.nil
      try clear hHeld
      rw [if_pos (by rfl)]
      have HK := hide hK
      clear hK
      go_wp2_with fail
      refine (unhide HK).out _ _ (by exact (unhide HR2).keep (unhide BB)) (fun hHeld => ?_)
      clear HK
      refine wpAnyH_done (by kernel_rfl) ?_ _
      clear hHeld
      try simp only [Act.put, List.setIfInBounds_toArray, List.set_cons_zero, List.set_cons_succ]
      replace HR2 := hide ((unhide HR2).keep (unhide BB))
      replace OW := hide ((unhide OW).keep (unhide BB))
      replace B := hide (bTr (unhide B) (unhide BB))
      clear BB hO q3 OKM HV GV VOK
      have mr : r.length ≤ maxLen := by unfold maxLen; omega
      have HV := hide (show SetIs r ⟨2, zA, r, []⟩ from SetIs.same (unhide HG') (unhide HRR) h50 (unhide HRR).mem (by omega))
      have q3 := hide (fun w h => iSetOf_any a1 r.length c1 r w mr h (unhide OKR))
      go_wp2_with fail
      try simp only [Act.put, List.setIfInBounds_toArray, List.set_cons_zero, List.set_cons_succ]
      have BB : Hid (Below y3.heap.size y3 y3.drew) := hide (Below.refl _ _).drew
      refine wp_region_held_drew (S := fun w' => RowIs w' bs #[.int .i64 2, .int .i64 0, .int .i64 0, .string ⟨#[]⟩, .string ⟨#[]⟩, .slice a1 r.length c1, .slice a2 0 c2] 29) (by kernel_rfl) (by exact (unhide HR2).keep (unhide BB)) (fun hHeld => ?_)
      refine wpAnyH_take (i := 0) (oi := { dst := some 58, op := Op.fieldAddr 29 (Operand.tmp 4) 2, type := 0, pos := "laws.go:267", after := #[], guard := none }) (v := .pointer (some ⟨bs, 5, none⟩)) rfl (by kernel_rfl) (by kernel_rfl) (by kernel_rfl) (fun _ _ _ h => h) (Or.inl ⟨by rfl, (by intro w hSw; (try go_simp); (try with_reducible rfl))⟩) (by assumption) ?_
      simp only [Act.put, List.setIfInBounds_toArray, List.set_cons_zero, List.set_cons_succ]
      refine wpAnyH_take (i := 1) (oi := { dst := some 59, op := Op.load 23 (Operand.tmp 58), type := 23, pos := "laws.go:267", after := #[{ on := 0, ground := Ground.data }], guard := none }) (v := .slice a1 r.length c1) rfl (by kernel_rfl) (by kernel_rfl) (by kernel_rfl) (fun _ _ _ h => h) (Or.inl ⟨by rfl, (by intro w hSw; have c5 := V.RowIs.at hSw (o := 5) (v := .slice a1 r.length c1) rfl; (try go_simp); (try with_reducible rfl))⟩) (by assumption) ?_
      simp only [Act.put, List.setIfInBounds_toArray, List.set_cons_zero, List.set_cons_succ]
      refine wpAnyH_take (i := 3) (oi := { dst := some 61, op := Op.load 29 (Operand.tmp 4), type := 29, pos := "laws.go:267", after := #[], guard := none }) (v := .agg #[.int .i64 2, .int .i64 0, .int .i64 0, .string ⟨#[]⟩, .string ⟨#[]⟩, .slice a1 r.length c1, .slice a2 0 c2]) rfl (by kernel_rfl) (by kernel_rfl) (by kernel_rfl) (fun _ _ _ h => h) (V.hy_row (by rfl) 29 _ rfl bs rfl 29 _ _ (fun w h => h) Try.underlying29 rfl (by kernel_rfl)) (by assumption) ?_
      simp only [Act.put, List.setIfInBounds_toArray, List.set_cons_zero, List.set_cons_succ]
      refine wpAnyH_ready (rs := [2]) (by kernel_rfl) (by simp) ?_
      refine AllReadyH.cons (o := { dst := some 60, op := Op.call { callee := Callee.value (Operand.func 5), args := #[Operand.tmp 59], argTypes := #[23] }, type := 29, pos := "laws.go:267", after := #[{ on := 1, ground := Ground.data }], guard := none }) rfl (fun K hK => ?_) AllReadyH.nil
      try clear hHeld
      refine V.hcall1 _ (by rfl) 5 _ _ (by rfl) (.slice a1 r.length c1) (by rfl) ent_iSetOf (unhide q3 _ (sla_own (own_keepT (unhide OW).i (unhide BB)))) ?_
      rintro e z1 ⟨⟨v', u1, u2, rfl, ow, hv'⟩, hb⟩
      obtain rfl : (⟨2, zA, r, []⟩ : ValT) = v' := (unhide HV).uniq (unhide hv')
      obtain ⟨e1', f1', e1⟩ := own_sl ow.i
      subst e1
      obtain ⟨e2', f2', e2⟩ := own_sl ow.n
      subst e2
      unfold VRet
      have OX := hide ow
      replace BB := hide (bTr (unhide BB) hb)
      clear ow hb hv'
      refine ⟨_, rfl, ?_⟩
      refine hK.out _ _ (by exact (unhide HR2).keep (unhide BB)) (fun hHeld => ?_)
      clear hK
      simp only [Act.put, List.setIfInBounds_toArray, List.set_cons_zero, List.set_cons_succ]
      refine wpAnyH_ready (rs := [4]) (by kernel_rfl) (by simp) ?_
      refine AllReadyH.cons (o := { dst := some 62, op := Op.call { callee := Callee.value (Operand.func 6), args := #[Operand.tmp 60, Operand.tmp 61], argTypes := #[29, 29] }, type := 4, pos := "laws.go:267", after := #[{ on := 2, ground := Ground.data }, { on := 3, ground := Ground.data }, { on := 2, ground := Ground.chain }], guard := none }) rfl (fun K hK => ?_) AllReadyH.nil
      try clear hHeld
      refine V.hcall2 _ (by rfl) 6 _ _ _ (by rfl) (.agg #[.int .i64 2, .int .i64 0, .int .i64 0, .string ⟨#[]⟩, .string ⟨#[]⟩, .slice e1' r.length f1', .slice e2' 0 f2']) (.agg #[.int .i64 2, .int .i64 0, .int .i64 0, .string ⟨#[]⟩, .string ⟨#[]⟩, .slice a1 r.length c1, .slice a2 0 c2]) (by rfl) (by rfl) ent_zValue (zValue_same ⟨2, zA, r, []⟩ e1' e2' a1 a2 _ f1' _ f2' _ c1 _ c2 _ (unhide M1) (unhide M2) (sla_own (unhide OX).i) (sls_own (unhide OX).n) (sla_own (own_keepT (unhide OW).i (unhide BB))) (sls_own (own_keepT (unhide OW).n (unhide BB)))) ?_
      rintro e z2 ⟨rfl, hb⟩
      replace BB := hide (bTr (unhide BB) hb)
      clear hb OX
      refine ⟨_, rfl, ?_⟩
      refine hK.out _ _ (by exact (unhide HR2).keep (unhide BB)) (fun hHeld => ?_)
      clear hK
      simp only [Act.put, List.setIfInBounds_toArray, List.set_cons_zero, List.set_cons_succ]
      refine wpAnyH_ready (rs := [5]) (by kernel_rfl) (by simp) ?_
      refine AllReadyH.cons (o := { dst := some 2, op := Op.assign (Operand.tmp 62), type := 4, pos := "laws.go:267", after := #[{ on := 4, ground := Ground.data }, { on := 4, ground := Ground.chain }, { on := 0, ground := Ground.phase }, { on := 1, ground := Ground.phase }, { on := 2, ground := Ground.phase }, { on := 3, ground := Ground.phase }, { on := 4, ground := Ground.phase }], guard := none }) rfl (fun K hK => ?_) AllReadyH.nil
      try clear hHeld
      rw [if_pos (by rfl)]
      have HK := hide hK
      clear hK
      go_wp2_with fail
      refine (unhide HK).out _ _ (by exact (unhide HR2).keep (unhide BB)) (fun hHeld => ?_)
      clear HK
      try simp only [Act.put, List.setIfInBounds_toArray, List.set_cons_zero, List.set_cons_succ]
      refine wpAnyH_done (by kernel_rfl) ?_ _
      clear hHeld
      try simp only [Act.put, List.setIfInBounds_toArray, List.set_cons_zero, List.set_cons_succ]
      replace B := hide (bTr (unhide B) (unhide BB))
      go_wp2_with fail
      go_ret
      exact ⟨rfl, unhide B⟩
end Go.Proofs.Ytlnmhjihfolliaa.V
