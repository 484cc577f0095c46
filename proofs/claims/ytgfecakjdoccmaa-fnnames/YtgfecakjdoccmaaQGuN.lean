/- impl.guessName. -/
import Derived.Test.YtgfecakjdoccmaaQGuP
import Derived.WalkSmall
namespace Go.Proofs.Ytgfecakjdoccmaa
open Go.RowKit

def partsV (l : List PartT) : List Value := l.flatMap fun p => [.string p.a, .string p.t]
theorem partsV_len (l : List PartT) : (partsV l).length = l.length * 2 := by
  induction l with
  | nil => rfl
  | cons p l ih => simp [partsV] at ih ⊢; omega
theorem partsV_snoc (l : List PartT) (p : PartT) : partsV (l ++ [p]) = partsV l ++ [.string p.a, .string p.t] := by simp [partsV]
theorem partsV_get : ∀ (l : List PartT) (i : Nat) (h : i < l.length), (partsV l)[i * 2]? = some (.string l[i].a) ∧ (partsV l)[i * 2 + 1]? = some (.string l[i].t)
  | [], i, h => absurd h (Nat.not_lt_zero _)
  | p :: l, 0, _ => ⟨rfl, rfl⟩
  | p :: l, i + 1, h => by
    have := partsV_get l i (by simpa using h)
    have e : partsV (p :: l) = .string p.a :: .string p.t :: partsV l := by simp [partsV]
    rw [e, show (i + 1) * 2 = i * 2 + 1 + 1 by omega]
    simpa using this
/-- A row of parts that is owned reads as a slice of parts. -/
theorem own_parts {w : World} {base : Nat} {v : Value} {l : List PartT} (h : w.ownsRow base 55 2 v l.length (partsV l)) : ∃ a cap, v = .slice a l.length cap ∧ SlP w a l.length l := by
  rcases h.2 with ⟨rfl, e⟩ | ⟨g, cap, cur, rfl, _, hh, _, _, hsz, htk⟩
  · have : l = [] := List.length_eq_zero_iff.1 e
    subst this
    exact ⟨none, 0, rfl, rfl, .inl rfl⟩
  · have hr : RowIs w g cur 55 := hh
    have hc : ∀ j u, (partsV l)[j]? = some u → cur[j]? = some u := fun j u hu => by
      rw [← htk, List.getElem?_take] at hu
      rw [← Array.getElem?_toList]
      split at hu
      · exact hu
      · cases hu
    exact ⟨_, _, rfl, rfl, .inr ⟨g, 0, rfl, hr.lt, fun i hi => by rw [Nat.zero_add, hr.cell]; exact hc _ _ (partsV_get l i hi).1, fun i hi => by rw [Nat.zero_add, hr.cell]; exact hc _ _ (partsV_get l i hi).2⟩⟩
theorem info_part : (Try.prog.info? 55).map (fun i => (i.zero, i.size, i.bytes)) = some (some (.agg #[.string ByteArray.empty, .string ByteArray.empty]), 2, 32) := by kernel_rfl

theorem cutE_len (s : List UInt8) : (cutE s).1.length ≤ s.length ∧ (cutE s).2.length ≤ s.length := by
  unfold cutE
  split
  · simp only [List.length_take, List.length_drop]; omega
  · simp
theorem gpart_len : ∀ (s : List UInt8), (gpart s).1.length ≤ s.length ∧ (gpart s).2.length ≤ s.length
  | [] => by simp [gpart]
  | [c] => by by_cases h : c = 44 <;> simp [gpart, h]
  | c :: d :: t => by
    have h1 := gpart_len t
    have h2 := gpart_len (d :: t)
    simp only [List.length_cons] at h2
    by_cases e1 : c = 44
    · simp [gpart, e1]
    · by_cases e2 : c = 92
      · simp [gpart, e2]; omega
      · simp [gpart, e1, e2]; omega
theorem gname_nil (n : Nat) : gname n [] = [] := by cases n <;> rfl

theorem own_setT {w : World} {base n e size B o : Nat} {v u : Value} {xs : List Value} (h : w.ownsRow base e size v n xs) (hn : ∀ g, v.ownBlock = some g → g ≠ B) : (w.setCell ⟨B, o, none⟩ u).ownsRow base e size v n xs := by
  refine ⟨h.1, h.2.imp_right ?_⟩
  rintro ⟨g, cap, cur, e', h1, hh, r⟩
  refine ⟨g, cap, cur, e', h1, RowIs.setOther (T := e) hh u (hn g ?_), r⟩
  rw [e']; rfl
theorem cell_two_at (W : World) (n : Nat) (hn : n = W.heap.size) (a b : Value) (t : TypeId) : ∀ j u, [a, b][j]? = some u → (W.alloc (.cells #[a, b] t)).cell? ((⟨n, 0, none⟩ : Addr).add j) = some u := by
  subst hn; exact cell_two_new W a b t
def lenV : Value → Nat
  | .slice _ n _ => n
  | _ => 0

set_option maxRecDepth 8000 in
set_option maxHeartbeats 2000000 in
theorem guessName_any (s : ByteArray) (w : World) (hs : s.size ≤ 1048576) :
    Calls Try.prog 38 #[.string s] w fun e w' => (∃ v, e = .returned v ∧ w'.ownsRow w.heap.size 55 2 v (gname 9 s.data.toList).length (partsV (gname 9 s.data.toList))) ∧ Below w.heap.size w w' := by
  obtain ⟨i0, hi, hz0, hz1, hz2⟩ := info_parts info_part
  obtain ⟨N, hN⟩ : ∃ N, gname 9 s.data.toList = N := ⟨_, rfl⟩
  have HN := hide hN
  rw [hN]
  clear hN
  go_enter Try.func38, Try.ntmps38
  go_wp2_with fail
  go_loopw [0, 3] (fun u v w' => ∃ (l0 : List PartT) (t : ByteArray), l0.length ≤ 9 ∧ u = .string t ∧ t.size ≤ 1048576 ∧ Hid (w'.ownsRow w.heap.size 55 2 v l0.length (partsV l0)) ∧ Hid (Below w.heap.size w w') ∧ Hid (N = l0 ++ gname (9 - l0.length) t.data.toList)) (fun _ v _ => 9 - lenV v)
  case atStart => exact ⟨[], s, Nat.zero_le _, rfl, hs, hide (World.ownsRow_nil _ _ _ _), hide (Below.refl _ _), hide (unhide HN).symm⟩
  case round =>
    obtain ⟨l0, t, hl0, rfl, ht, hown, hb, hN⟩ := hrel
    obtain ⟨a, cap, rfl, _⟩ := own_parts (unhide hown)
    by_cases h0 : t.size < 1
    · obtain rfl : t = ByteArray.empty := ByteArray.ext (Array.eq_empty_of_size_eq_zero (by show t.size = 0; omega))
      have st := hide (show N = l0 by rw [unhide hN]; show l0 ++ gname _ [] = l0; rw [gname_nil, List.append_nil])
      go_wp2_with fail
      go_ret
      exact ⟨⟨_, rfl, by rw [unhide st]; exact unhide hown⟩, unhide hb⟩
    have he := isEmpty_of h0
    by_cases h8 : 8 < l0.length
    · have st := hide (show N = l0 by rw [unhide hN, show 9 - l0.length = 0 by omega]; show l0 ++ [] = l0; rw [List.append_nil])
      have d8 : ¬ (l0.length : Int) ≤ 8 := by omega
      go_wp2_with fail
      go_ret
      exact ⟨⟨_, rfl, by rw [unhide st]; exact unhide hown⟩, unhide hb⟩
    have d8 : (l0.length : Int) ≤ 8 := by omega
    have hne : ¬ t.data.toList = [] := fun h => h0 (by
      have l1 : t.data.toList.length = t.size := by simp
      rw [h] at l1
      have : t.size = 0 := l1.symm
      omega)
    have st := hide (show N = (l0 ++ [⟨⟨(cutE t.data.toList).1.toArray⟩, ⟨(gpart (cutE t.data.toList).2).1.toArray⟩⟩]) ++ gname (9 - (l0.length + 1)) (gpart (cutE t.data.toList).2).2 by
      rw [unhide hN, show 9 - l0.length = (9 - (l0.length + 1)) + 1 by omega, gname_succ _ hne]; simp)
    have lt : t.data.toList.length = t.size := by simp
    have c1 := cutE_len t.data.toList
    have c2 := gpart_len (cutE t.data.toList).2
    have qc := hide (fun w => cut_any t w ht)
    have qg : Hid (∀ w, Calls Try.prog 66 #[.string ⟨(cutE t.data.toList).2.toArray⟩] w fun e w' => e = .returned (.tuple #[.string ⟨(gpart (cutE t.data.toList).2).1.toArray⟩, .string ⟨(gpart (cutE t.data.toList).2).2.toArray⟩]) ∧ Below w.heap.size w w') :=
      hide (fun w => guessPart_any ⟨(cutE t.data.toList).2.toArray⟩ w (by show (cutE t.data.toList).2.toArray.size ≤ _; rw [List.size_toArray]; omega))
    have hT : (⟨(gpart (cutE t.data.toList).2).2.toArray⟩ : ByteArray).size ≤ 1048576 := by show (gpart (cutE t.data.toList).2).2.toArray.size ≤ _; rw [List.size_toArray]; omega
    have st2 : Hid (N = (l0 ++ [⟨⟨(cutE t.data.toList).1.toArray⟩, ⟨(gpart (cutE t.data.toList).2).1.toArray⟩⟩]) ++ gname (9 - (l0.length + 1)) (⟨(gpart (cutE t.data.toList).2).2.toArray⟩ : ByteArray).data.toList) := st
    clear st c1 c2 lt hne h0 h8 hN
    generalize (⟨(cutE t.data.toList).1.toArray⟩ : ByteArray) = X at qc st2
    generalize (⟨(cutE t.data.toList).2.toArray⟩ : ByteArray) = Y at qc qg
    generalize (⟨(gpart (cutE t.data.toList).2).1.toArray⟩ : ByteArray) = Z at qg st2
    generalize (⟨(gpart (cutE t.data.toList).2).2.toArray⟩ : ByteArray) = T at qg st2 hT
    go_wp2_with fail
    refine (unhide qc _).mono ?_
    rintro e w1 ⟨⟨bb, rfl⟩, hb1⟩
    have own1 := hide (own_keepT (unhide hown) hb1)
    have B1 := hide (bTr (unhide hb) hb1)
    have nB := hide (show ∀ g, (Value.slice a l0.length cap).ownBlock = some g → g ≠ w1.heap.size from fun g hg => by have := ((unhide own1).lt g hg).2; omega)
    have R1 := hide (RowIs.new w1 #[.string X, .string ⟨#[]⟩] 55)
    replace own1 := hide ((unhide own1).alloc (.cells #[.string X, .string ⟨#[]⟩] 55))
    replace B1 := hide (bAl (unhide B1) (.cells #[.string X, .string ⟨#[]⟩] 55))
    have hz1' : w.heap.size ≤ w1.heap.size := Nat.le_trans (unhide hb).size hb1.size
    clear hb1 qc hown hb
    go_wp2_with fail
    refine (unhide qg _).mono ?_
    rintro e w2 ⟨rfl, hb2⟩
    replace own1 := hide (own_keepT (unhide own1) hb2)
    replace R1 := hide ((unhide R1).keep hb2)
    replace B1 := hide (bTr (unhide B1) hb2)
    clear hb2 qg
    have f1 := (unhide R1).froz 1
    have k0 := (unhide R1).at (o := 0) (v := .string X) rfl
    have k1 := (unhide R1).at (o := 1) (v := .string ⟨#[]⟩) rfl
    have own3 := hide (own_setT (o := 1) (u := .string Z) (unhide own1) (unhide nB))
    have B3 := hide ((unhide B1).setCell (p := ⟨w1.heap.size, 1, none⟩) hz1' (.string Z))
    have R3 := hide ((unhide R1).set 1 (.string Z))
    have e0 := (unhide R3).at (o := 0) (v := .string X) rfl
    have e1 := (unhide R3).at (o := 1) (v := .string Z) rfl
    have z3 := (unhide B3).size
    clear own1 R1 B1 R3
    go_wp2_with (at_builtin; refine wpList_append_own _ rfl _ _ 23 rfl w.heap.size 55 i0 _ 2 32 Try.underlying23 hi hz0 hz1 hz2 rfl (by decide) _ _ _ rfl ((unhide own3).alloc _) ⟨_, 0, none⟩ 1 1 [.string X, .string Z] rfl rfl (cell_two_at _ _ (by simp [World.setCell]) _ _ _) (fun x hx => by simp at hx; rcases hx with rfl | rfl <;> rfl) (by unfold maxLen; omega) (by omega) (by simp at z3 ⊢; omega) ?_; intro v' w4 hown4 hgrow4 _)
    have o4 := hide (show w4.ownsRow w.heap.size 55 2 v' (l0 ++ [(⟨X, Z⟩ : PartT)]).length (partsV (l0 ++ [⟨X, Z⟩])) by rw [partsV_snoc, List.length_append]; exact hown4)
    have B4 := hide ((bAl (unhide B3) _).grown hgrow4 (by simp at z3 ⊢; omega) (fun j hj => ((unhide own3).lt j hj).1))
    obtain ⟨a4, cap4, rfl, _⟩ := own_parts (unhide o4)
    refine ⟨⟨l0 ++ [⟨X, Z⟩], T, by simp; omega, rfl, hT, o4, B4, hide ?_⟩, ?_⟩
    · rw [unhide st2, List.length_append]; rfl
    · simp [lenV]; omega
end Go.Proofs.Ytgfecakjdoccmaa
