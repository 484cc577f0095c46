/- Documents: how deep one is, by the program. -/
import Derived.Test.YtdhpfhpegaekpaaDoorELq
namespace Go.Proofs.YtdhpfhpegaekpaaDoor.V
set_option linter.unusedSimpArgs false
set_option linter.unusedVariables false
set_option maxRecDepth 20000
open Go.RowKit

def nV (n : Nat) : Value := .int .i64 (n : Int)
def maxD (D : List Nat) : Nat := D.foldl max 0
theorem foldl_max (l : List Nat) : ∀ (a b : Nat), l.foldl max a ≤ b ↔ a ≤ b ∧ ∀ d ∈ l, d ≤ b := by
  induction l with
  | nil => intro a b; simp
  | cons x l ih =>
    intro a b
    rw [List.foldl_cons, ih]
    simp only [List.mem_cons, forall_eq_or_imp, Nat.max_le]
    constructor
    · rintro ⟨⟨h1, h2⟩, h3⟩; exact ⟨h1, h2, h3⟩
    · rintro ⟨h1, h2, h3⟩; exact ⟨⟨h1, h2⟩, h3⟩
theorem maxD_le (D : List Nat) (b : Nat) : maxD D ≤ b ↔ ∀ d ∈ D, d ≤ b := by
  unfold maxD
  rw [foldl_max]
  exact ⟨fun h => h.2, fun h => ⟨Nat.zero_le _, h⟩⟩
theorem maxD_snoc (D : List Nat) (d : Nat) : maxD (D ++ [d]) = max (maxD D) d := by unfold maxD; rw [List.foldl_append]; rfl
set_option maxHeartbeats 1000000 in
theorem max_any (base : Nat) (v : Value) (D : List Nat) (w : World) (h0 : 1 ≤ D.length) (h60 : D.length ≤ 60) (h : w.ownsRow base 3 1 v D.length (D.map nV)) (hb : ∀ d ∈ D, d ≤ 1000) :
    Calls Tryd.prog 52 #[v] w fun e w' => e = .returned (.int .i64 (maxD D : Int)) ∧ w = w' := by
  obtain ⟨a, c, rfl, hg⟩ := own_form1 h
  obtain ⟨g, rfl, _, gz⟩ := hg (by omega)
  have cell : ∀ i (hi : i < D.length), w.cell? ⟨g, i, none⟩ = some (.int .i64 (D[i] : Int)) := fun i hi => by
    rw [h.cellAt i (by omega), List.getElem?_map, List.getElem?_eq_getElem hi]; rfl
  have HC := hide cell
  have c0 := cell 0 (by omega)
  have hl1 : ¬ (D.length : Int) < 1 := by omega
  have HB := hide hb
  clear cell h
  obtain ⟨n, hn⟩ : ∃ n, D.length = n := ⟨_, rfl⟩
  have HN := hide hn
  rw [hn] at hl1 h0 h60 ⊢
  clear hn
  have i0 : (0 : Int) < (n : Int) := by omega
  go_enter Tryd.func52, Tryd.ntmps52
  go_wp2_with fail
  clear c0
  go_loopw [3, 4] (fun m i w' => ∃ k : Nat, 1 ≤ k ∧ k ≤ n ∧ i = .int .i64 k ∧ m = .int .i64 ((maxD (D.take k) : Nat) : Int) ∧ w = w') (fun _ i _ => n - (Go.RowKit.intOf i).toNat)
  case atStart =>
    refine ⟨1, Nat.le_refl _, h0, rfl, ?_, rfl⟩
    have e : D.take 1 = [D[0]'(by rw [unhide HN]; omega)] := by
      match D, unhide HN with
      | [], hn => simp at hn; omega
      | x :: l, _ => simp
    rw [e]
    simp [maxD]
  case round =>
    obtain ⟨k, hk1, hk, rfl, rfl, rfl⟩ := hrel
    by_cases hlt : k < n
    · have hk' : k < D.length := by rw [unhide HN]; exact hlt
      have ck := unhide HC k hk'
      have hbk := unhide HB _ (List.getElem_mem hk')
      have ek : maxD (D.take (k + 1)) = max (maxD (D.take k)) D[k] := by rw [List.take_succ_eq_append_getElem hk', maxD_snoc]
      have hm : maxD (D.take k) ≤ 1000 := (maxD_le _ _).2 (fun d hd => unhide HB d (List.mem_of_mem_take hd))
      have EK := hide ek
      clear ek
      generalize D[k] = x at *
      generalize hmx : maxD (D.take k) = M at *
      by_cases hle : M ≤ x
      · have hle' : (M : Int) ≤ (x : Int) := by omega
        have E := hide (show maxD (D.take (k + 1)) = x by rw [unhide EK]; omega)
        go_wp2_with fail
        exact ⟨⟨k + 1, by omega, by omega, by go_num, by rw [unhide E]; first | rfl | (congr 1; omega), by trivial⟩, by simp [Go.RowKit.intOf]; omega⟩
      · have hle' : ¬ (M : Int) ≤ (x : Int) := by omega
        have E := hide (show maxD (D.take (k + 1)) = M by rw [unhide EK]; omega)
        go_wp2_with fail
        exact ⟨⟨k + 1, by omega, by omega, by go_num, by rw [unhide E]; first | rfl | (congr 1; omega), by trivial⟩, by simp [Go.RowKit.intOf]; omega⟩
    · have em : k = n := by omega
      subst em
      have E := hide (show D.take k = D from List.take_of_length_le (by rw [unhide HN]; exact Nat.le_refl _))
      rw [unhide E]
      go_wp2_with fail
      go_ret
      exact ⟨rfl, rfl⟩
set_option maxHeartbeats 2000000 in
theorem deepest_any (base : Nat) (v : Value) (ps : List Int) (D : List Nat) (w : World) (h0 : 1 ≤ ps.length) (h60 : ps.length ≤ 60) (hp : ParD ps D) (h : w.ownsRow base 3 1 v ps.length (ps.map iV)) :
    Calls Tryd.prog 36 #[v] w fun e w' => e = .returned (.int .i64 (maxD D : Int)) ∧ Below w.heap.size w w' := by
  obtain ⟨i0, hi0, hz⟩ := Option.map_eq_some_iff.1 info_int3
  simp only [Prod.mk.injEq] at hz
  obtain ⟨hz0, hz1, hz2⟩ := hz
  have HI := hide (And.intro hi0 (And.intro hz0 (And.intro hz1 hz2)))
  obtain ⟨a, c, rfl, hg⟩ := own_form1 h
  obtain ⟨g, rfl, _, gz⟩ := hg (by omega)
  have HO := hide h
  have HP := hide hp
  have small : ∀ (j : Nat) (hj : j < D.length), D[j] ≤ j + 1 := by
    intro j
    induction j using Nat.strongRecOn with
    | _ j ih =>
      intro hj
      obtain ⟨q1, q2, q3⟩ := hp.at' j (by rw [hp.len]; exact hj)
      rw [List.getElem?_eq_getElem hj] at q3
      simp only [Option.some.injEq] at q3
      rw [q3]
      unfold dW
      by_cases hn : ps[j]'(by rw [hp.len]; exact hj) < 0
      · rw [if_pos hn]; omega
      · rw [if_neg hn, List.getD_eq_getElem?_getD, List.getElem?_eq_getElem (by omega)]
        have := ih (ps[j]'(by rw [hp.len]; exact hj)).toNat (by omega) (by omega)
        simp only [Option.getD_some]
        omega
  have SM := hide small
  obtain ⟨n, hn⟩ : ∃ n, ps.length = n := ⟨_, rfl⟩
  have HN := hide hn
  rw [hn] at h0 h60 ⊢
  clear small h hp hn hi0 hz0 hz1 hz2
  go_enter Tryd.func36, Tryd.ntmps36
  go_wp2_with fail
  go_loopw [3, 5, 8] (fun v _ q w' => ∃ k : Nat, k ≤ n ∧ q = .int .i64 k ∧ Hid (w'.ownsRow w.heap.size 3 1 v k ((D.take k).map nV)) ∧ Hid (Below w.heap.size w w')) (fun _ _ q _ => n - (Go.RowKit.intOf q).toNat)
  case atStart => exact ⟨0, Nat.zero_le _, rfl, hide (World.ownsRow_nil _ _ _ _), hide (Below.refl _ _)⟩
  case round =>
    obtain ⟨k, hk, rfl, hO, hB⟩ := hrel
    have dl : D.length = n := by rw [← (unhide HP).len, unhide HN]
    by_cases hlt : k < n
    · have hkp : k < ps.length := by rw [unhide HN]; exact hlt
      have hkd : k < D.length := by omega
      have ck : wr.cell? ⟨g, k, none⟩ = some (.int .i64 ps[k]) := by
        have q := cellB (unhide hB) gz (show w.cell? ⟨g, k, none⟩ = some (.int .i64 ps[k]) by rw [(unhide HO).cellAt k (by omega), List.getElem?_map, List.getElem?_eq_getElem hkp]; rfl)
        exact q
      have gz' : g < wr.heap.size := Nat.lt_of_lt_of_le gz (unhide hB).size
      obtain ⟨p1, p2, p3⟩ := (unhide HP).at' k hkp
      rw [List.getElem?_eq_getElem hkd] at p3
      simp only [Option.some.injEq] at p3
      have et : D.take (k + 1) = D.take k ++ [D[k]] := List.take_succ_eq_append_getElem hkd
      have ET := hide et
      have sk := unhide SM k hkd
      have bw := hide (unhide hB).size
      have ow1 : ∀ x : Nat, Hid (∀ u ∈ [Value.int .i64 (x : Int)], u.oneCell' = true) := fun x => hide (fun u hu => by simp at hu; subst hu; rfl)
      have nw1 := fun x : Nat => hide (new1 wr (.int .i64 (x : Int)) 3 wr.heap.size rfl)
      have fin := hide (fun (x : Nat) (hx : D[k] = x) (v4 : Value) (w4 : World) (h1 : w4.ownsRow w.heap.size 3 1 v4 (k + 1) ((D.take k).map nV ++ [.int .i64 (x : Int)])) (h2 : (wr.alloc (.cells #[.int .i64 (x : Int)] 3)).grownBy w4 (u3).ownBlock) => show w4.ownsRow w.heap.size 3 1 v4 (k + 1) ((D.take (k + 1)).map nV) ∧ Below w.heap.size w w4 from by
        refine ⟨?_, ?_⟩
        · rw [unhide ET, List.map_append]
          rw [hx]
          exact h1
        · have b := bAl (unhide hB) (.cells #[.int .i64 (x : Int)] 3)
          exact b.grown h2 b.size (fun q hq => ((unhide hO).lt q hq).1))
      by_cases hneg : ps[k] < 0
      · have ed : D[k] = 1 := by rw [p3]; unfold dW; rw [if_pos hneg]
        have ED := hide ed
        have on1 := ow1 1
        have ne1 := nw1 1
        clear et p3 sk ed ow1 nw1
        generalize ps[k] = p at *
        go_wp2_with (at_builtin; refine wpList_append_own _ rfl _ _ 54 rfl w.heap.size 3 i0 (.int .i64 0) 1 8 Tryd.underlying54 (unhide HI).1 (unhide HI).2.1 (unhide HI).2.2.1 (unhide HI).2.2.2 rfl (by decide) _ _ _ rfl ((unhide hO).alloc _) ⟨wr.heap.size, 0, none⟩ 1 1 [.int .i64 1] rfl rfl (unhide ne1) (unhide on1) (by unfold maxLen; omega) (by omega) (by have := unhide bw; simp; omega) ?_; intro v4 w4 hown4 hgrow4 _)
        obtain ⟨f1, f2⟩ := unhide fin 1 (unhide ED) _ _ hown4 hgrow4
        exact ⟨⟨k + 1, by omega, by go_num, hide f1, hide f2⟩, by simp [Go.RowKit.intOf]; omega⟩
      · obtain ⟨j, hj⟩ : ∃ j : Nat, ps[k] = (j : Int) := ⟨(ps[k]).toNat, by omega⟩
        have hjk : j < k := by omega
        have hjd : j < D.length := by omega
        have ed : D[k] = D[j] + 1 := by
          rw [p3]; unfold dW
          rw [if_neg hneg, hj, Int.toNat_natCast, List.getD_eq_getElem?_getD, List.getElem?_eq_getElem hjd]
          rfl
        have sj := unhide SM j hjd
        obtain ⟨va, vc, e3, hva⟩ := own_form1 (unhide hO)
        subst e3
        obtain ⟨g3, rfl, _, gz3⟩ := hva (by omega)
        have cj : wr.cell? ⟨g3, j, none⟩ = some (.int .i64 (D[j] : Int)) := by
          rw [(unhide hO).cellAt j (by omega), List.getElem?_map, List.getElem?_take, if_pos hjk, List.getElem?_eq_getElem hjd]; rfl
        have ED := hide ed
        have on1 := ow1 (D[j] + 1)
        have ne1 := nw1 (D[j] + 1)
        have ew : IntKind.i64.wrap ((D[j] : Int) + 1) = ((D[j] + 1 : Nat) : Int) := by rw [IntKind.wrap_i64]; omega
        rw [hj] at ck
        have nj : ¬ (j : Int) < 0 := by omega
        clear et p3 sk ed ow1 nw1 p1 p2 hneg
        generalize D[j] = d at *
        go_wp2_with (at_builtin; refine wpList_append_own _ rfl _ _ 54 rfl w.heap.size 3 i0 (.int .i64 0) 1 8 Tryd.underlying54 (unhide HI).1 (unhide HI).2.1 (unhide HI).2.2.1 (unhide HI).2.2.2 rfl (by decide) _ _ _ rfl ((unhide hO).alloc _) ⟨wr.heap.size, 0, none⟩ 1 1 [.int .i64 ((d + 1 : Nat) : Int)] rfl rfl (unhide ne1) (unhide on1) (by unfold maxLen; omega) (by omega) (by have := unhide bw; simp; omega) ?_; intro v4 w4 hown4 hgrow4 _)
        obtain ⟨f1, f2⟩ := unhide fin (d + 1) (unhide ED) _ _ hown4 hgrow4
        exact ⟨⟨k + 1, by omega, by go_num, hide f1, hide f2⟩, by simp [Go.RowKit.intOf]; omega⟩
    · have em : k = n := by omega
      subst em
      have tk : D.take D.length = D := List.take_length
      rw [← dl, tk] at hO
      have q := hide (max_any w.heap.size _ D wr (by omega) (by omega) (unhide hO) (fun d hd => by
        obtain ⟨j, hj, rfl⟩ := List.mem_iff_getElem.1 hd
        have := unhide SM j hj
        omega))
      have BB := hide (unhide hB)
      go_wp2_with fail
      refine (unhide q).mono ?_
      rintro e w5 ⟨rfl, rfl⟩
      go_wp2_with fail
      go_ret
      exact ⟨rfl, unhide BB⟩
end Go.Proofs.YtdhpfhpegaekpaaDoor.V
