/- WTxt, WVtS, one behind the other. -/
import Derived.Test.YthemcakenammdaaGreatDoorJ19
import Derived.Test.YthemcakenammdaaGreatDoorJ22
import Derived.Lib.Join
/- The text of a value, as bytes. -/
namespace Go.Proofs.YthemcakenammdaaGreatDoor.V
open Go.RowKit

def AtomT.l (a : AtomT) : List UInt8 := atomL a.x a.n a.t a.y
theorem atomL_len {k n : Int} {t ty : ByteArray} (h8 : -9223372036854775808 ≤ n) (h9 : n ≤ 9223372036854775807) (hg : goodAtom k n t ty = true) : (atomL k n t ty).length ≤ 1100 := by
  have hi := Lib.itoa_length_le n h8 h9
  have hd := dig_len n h8 h9
  unfold atomL
  split
  · split <;> decide
  split
  · rename_i _ h3; exact Nat.le_trans (quo_len t (good_text hg (.inl h3))) (by decide)
  split
  · rename_i _ _ h4
    subst h4
    have a := quo_len t (good_text hg (.inr rfl))
    have b := good_type hg
    have b' : ty.data.toList.length ≤ 30 := b
    simp only [List.length_append, List.length_cons, List.length_nil]
    omega
  split
  · unfold decL dotL
    have p := padL_len (Lib.decDigits n.natAbs)
    simp only [List.length_append, List.length_cons, List.length_take, List.length_drop]
    split
    all_goals simp only [List.length_cons, List.length_nil]; omega
  split
  · rename_i _ _ _ _ h6
    subst h6
    obtain ⟨a0, a1, a2⟩ := good_addr hg
    have f : ∀ x ∈ (four (n / 64)).map Lib.itoa, x.length ≤ 21 := by
      intro x hx
      obtain ⟨m, hm, rfl⟩ := List.mem_map.1 hx
      simp only [four, List.mem_cons, List.not_mem_nil, or_false] at hm
      rcases hm with rfl | rfl | rfl | rfl <;> exact Lib.itoa_length_le _ (by omega) (by omega)
    have j := inter_len 21 _ f
    have z := Lib.itoa_length_le (n % 64) (by omega) (by omega)
    unfold blkL
    simp only [List.length_append, List.length_cons]
    simp only [List.length_map, four, List.length_cons, List.length_nil] at j ⊢
    omega
  split
  · simp only [List.length_cons]; omega
  · omega
theorem AtomT.l_len {a : AtomT} (h : a.Ok) (hg : a.good = true) : a.l.length ≤ 1100 := atomL_len h.n8 h.n9 hg

/-- What stands between the commas. -/
def pieces (v : ValT) : List (List UInt8) := if v.k = 3 then List.zipWith (fun n a => n.data.toList ++ 58 :: AtomT.l a) v.names v.items else v.items.map AtomT.l
def valL (v : ValT) : List UInt8 :=
  if v.k = 1 then v.a.l else if v.k = 3 then 123 :: (Lib.join (pieces v) [44] ++ [125]) else 91 :: (Lib.join (pieces v) [44] ++ [93])

theorem join_step {L : List (List UInt8)} {k : Nat} {y s : List UInt8} (h : L[k]? = some y) (hk : 0 < k) : Lib.join (L.take (k + 1)) s = Lib.join (L.take k) s ++ s ++ y := by
  obtain ⟨j, rfl⟩ : ∃ j, k = j + 1 := ⟨k - 1, by omega⟩
  cases L with
  | nil => simp at h
  | cons x r =>
    simp only [List.getElem?_cons_succ] at h
    rw [List.take_succ_cons, List.take_succ_cons, Lib.join_cons, Lib.join_cons, Lib.joinTail_take_succ s r j y h]
    simp
theorem join_first {L : List (List UInt8)} {y s : List UInt8} (h : L[0]? = some y) : Lib.join (L.take 1) s = y := by
  cases L with
  | nil => simp at h
  | cons x r =>
    simp only [List.getElem?_cons_zero, Option.some.injEq] at h
    subst h
    exact Lib.join_one _ _
theorem join_bound (s : List UInt8) (hs : s.length = 1) (m : Nat) : ∀ L : List (List UInt8), (∀ x ∈ L, x.length ≤ m) → (Lib.join L s).length ≤ (m + 1) * L.length
  | [], _ => by simp [Lib.join, List.intercalate]
  | [a], h => by
    have := h a (by simp)
    simp [Lib.join, List.intercalate]
    omega
  | a :: b :: L, h => by
    have ih := join_bound s hs m (b :: L) (fun x hx => h x (List.mem_cons_of_mem _ hx))
    have := h a (by simp)
    simp [Lib.join, List.intercalate, Nat.mul_add, hs] at ih ⊢
    omega
theorem name_len {s : ByteArray} (h : goodName s = true) : s.size ≤ 30 := by
  have : nameL s.data.toList = true := h
  unfold nameL at this
  simp at this
  have e : s.data.toList.length = s.size := rfl
  simp at e
  omega
theorem retB_no {e : Ending} {p : Prop} (h : RetB e p) (hp : ¬ p) : e = .returned (.bool false) := by
  obtain ⟨b, rfl, hb⟩ := h
  cases b
  · rfl
  · exact absurd (hb.1 rfl) hp
theorem retB_yes {e : Ending} {p : Prop} (h : RetB e p) (hp : p) : e = .returned (.bool true) := by
  obtain ⟨b, rfl, hb⟩ := h
  rw [hb.2 hp]
end Go.Proofs.YthemcakenammdaaGreatDoor.V
/- spec.ValueText. -/
namespace Go.Proofs.YthemcakenammdaaGreatDoor.V
open Go.RowKit

theorem AtomT.isText (a : AtomT) (h : a.Ok) (hg : a.good = true) (w : World) : Calls Tryz.prog 38 #[.agg #[.int .i64 a.x, .int .i64 a.n, .string a.t, .string a.y]] w fun e w' => e = .returned (.string ⟨a.l.toArray⟩) ∧ Below w.heap.size w w' :=
  l1Text_any a.x a.n a.t a.y w h.n8 h.n9 hg

theorem sValueText_not (v : ValT) (hv : v.Ok) (a1 a2 : Option Addr) (l1 c1 l2 c2 : Nat) (w : World) (hs : SlA w a1 l1 v.items) (hs2 : SlS w a2 l2 v.names) (hg : ¬ GoodVal v) :
    Calls Tryz.prog 16 #[.agg #[.int .i64 v.k, .int .i64 v.a.x, .int .i64 v.a.n, .string v.a.t, .string v.a.y, .slice a1 l1 c1, .slice a2 l2 c2]] w
      fun e w' => e = .returned (.string ⟨#[]⟩) ∧ Below w.heap.size w w' := by
  have q := hide (fun w hs hs2 => sGoodValue_any v hv a1 a2 l1 c1 l2 c2 w hs hs2)
  have HS := hide hs
  have HS2 := hide hs2
  clear hs hs2
  go_enter Tryz.func16, Tryz.ntmps16
  go_wp2_with fail
  refine (unhide q _ ((unhide HS).keep (bAl (Below.refl _ _) _)) ((unhide HS2).keep (bAl (Below.refl _ _) _))).mono ?_
  rintro e w1 ⟨hr, hb1⟩
  obtain rfl := retB_no hr hg
  go_wp2_with fail
  go_ret
  exact ⟨rfl, bTr (bAl (Below.refl _ _) _) hb1⟩

set_option maxHeartbeats 1000000 in
theorem sValueText_1 (A : AtomT) (items : List AtomT) (names : List ByteArray) (hv : ValT.Ok ⟨1, A, items, names⟩) (a1 a2 : Option Addr) (l1 c1 l2 c2 : Nat) (w : World) (hs : SlA w a1 l1 items) (hs2 : SlS w a2 l2 names) (hg : GoodVal ⟨1, A, items, names⟩) (ha : A.good = true) :
    Calls Tryz.prog 16 #[.agg #[.int .i64 1, .int .i64 A.x, .int .i64 A.n, .string A.t, .string A.y, .slice a1 l1 c1, .slice a2 l2 c2]] w
      fun e w' => e = .returned (.string ⟨A.l.toArray⟩) ∧ Below w.heap.size w w' := by
  have q := hide (fun w hs hs2 => sGoodValue_any ⟨1, A, items, names⟩ hv a1 a2 l1 c1 l2 c2 w hs hs2)
  have qt := hide (fun w => A.isText hv.a ha w)
  have HS := hide hs
  have HS2 := hide hs2
  have QV := hide (ValAt.new w ⟨1, A, items, names⟩ (.slice a1 l1 c1) (.slice a2 l2 c2) 33)
  clear hs hs2
  go_enter Tryz.func16, Tryz.ntmps16
  go_wp2_with fail
  refine (unhide q _ ((unhide HS).keep (bAl (Below.refl _ _) _)) ((unhide HS2).keep (bAl (Below.refl _ _) _))).mono ?_
  rintro e w1 ⟨hr, hb1⟩
  obtain rfl := retB_yes hr hg
  obtain ⟨v0, v1, v2, v3, v4, v5, v6, zv⟩ := (unhide QV).keep hb1
  have B1 := hide (bTr (bAl (Below.refl w.heap.size w) _) hb1)
  clear hb1 hr
  go_wp2_with fail
  refine (unhide qt _).mono ?_
  rintro e w2 ⟨rfl, hb2⟩
  go_wp2_with fail
  go_ret
  exact ⟨rfl, bTr (unhide B1) hb2⟩

set_option maxHeartbeats 1000000 in
theorem sValueText_2 (items : List AtomT) (names : List ByteArray) (hv : ValT.Ok ⟨2, ⟨0, 0, ⟨#[]⟩, ⟨#[]⟩⟩, items, names⟩) (a1 a2 : Option Addr) (l1 c1 l2 c2 : Nat) (w : World) (hs : SlA w a1 l1 items) (hs2 : SlS w a2 l2 names) (hg : GoodVal ⟨2, ⟨0, 0, ⟨#[]⟩, ⟨#[]⟩⟩, items, names⟩)
    (h50 : items.length ≤ 50) (hA : AllA items items.length) (L : List (List UInt8)) (hL : L = items.map AtomT.l) :
    Calls Tryz.prog 16 #[.agg #[.int .i64 2, .int .i64 0, .int .i64 0, .string ⟨#[]⟩, .string ⟨#[]⟩, .slice a1 l1 c1, .slice a2 l2 c2]] w
      fun e w' => e = .returned (.string ⟨(91 :: (Lib.join L [44] ++ [93])).toArray⟩) ∧ Below w.heap.size w w' := by
  have q := hide (fun w hs hs2 => sGoodValue_any ⟨2, ⟨0, 0, ⟨#[]⟩, ⟨#[]⟩⟩, items, names⟩ hv a1 a2 l1 c1 l2 c2 w hs hs2)
  have hi := hv.items
  have l50 : l1 ≤ 50 := by rw [hs.1]; exact h50
  have HS := hide hs
  have HS2 := hide hs2
  have QV0 := hide (ValAt.new w ⟨2, ⟨0, 0, ⟨#[]⟩, ⟨#[]⟩⟩, items, names⟩ (.slice a1 l1 c1) (.slice a2 l2 c2) 33)
  have HL := hide hL
  have Lx := hide (show ∀ k (h : k < items.length), L[k]? = some items[k].l from fun k h => by rw [hL]; simp [h])
  have LL := hide (show L.length = l1 by rw [hL, List.length_map, hs.1])
  have Lb := hide (show ∀ x ∈ L, x.length ≤ 1100 from fun x hx => by
    rw [hL] at hx
    obtain ⟨a, ha, rfl⟩ := List.mem_map.1 hx
    obtain ⟨i, hi', rfl⟩ := List.getElem_of_mem ha
    exact AtomT.l_len (hi _ ha) (hA i hi' hi'))
  have HA := hide hA
  clear hs hs2 hL hA
  go_enter Tryz.func16, Tryz.ntmps16
  go_wp2_with fail
  refine (unhide q _ ((unhide HS).keep (bAl (Below.refl _ _) _)) ((unhide HS2).keep (bAl (Below.refl _ _) _))).mono ?_
  rintro e W0 ⟨hr, hb1⟩
  obtain rfl := retB_yes hr hg
  have QV := hide ((unhide QV0).keep hb1)
  have B0 := hide (bTr (bAl (Below.refl w.heap.size w) _) hb1)
  clear hb1 hr QV0
  obtain ⟨v0, _, _, _, _, v5, _, zv⟩ := (unhide QV)
  go_wp2_with fail
  go_loopw [3, 18] (fun o i w' => ∃ (k : Nat) (X : ByteArray), k ≤ l1 ∧ i = .int .i64 k ∧ o = .string X ∧ Hid (X.data.toList = Lib.join (L.take k) [44]) ∧ Hid (Below w.heap.size w w') ∧ Hid (Below W0.heap.size W0 w')) (fun _ i _ => l1 - (intOf i).toNat)
  case atStart => exact ⟨0, ⟨#[]⟩, Nat.zero_le _, rfl, rfl, hide rfl, B0, hide (Below.refl _ _)⟩
  case round =>
    obtain ⟨k, X, hk, rfl, rfl, hX, hb, hb0⟩ := hrel
    have sX : X.size ≤ 55050 := by
      have e : X.data.toList.length = X.size := by simp
      rw [← e, unhide hX]
      have := join_bound [44] rfl 1100 (L.take k) (fun x hx => unhide Lb x (List.mem_of_mem_take hx))
      have z : (L.take k).length ≤ 50 := by rw [List.length_take]; omega
      have y := Nat.mul_le_mul_left (1100 + 1) z
      omega
    by_cases hlt : k < l1
    · have hk' : k < items.length := by rw [← (unhide HS).1]; exact hlt
      obtain ⟨b, off, rfl, hrow⟩ := ((unhide HS).keep (unhide hb)).at hlt
      obtain ⟨c0, c1, c2, c3⟩ := hrow.c k hk'
      have zk := hrow.z
      have hok := hi _ (List.getElem_mem hk')
      have hgk := unhide HA k hk' hk'
      have qk := hide (fun w => AtomT.isText items[k] hok hgk w)
      have sk := AtomT.l_len hok hgk
      have lx := hide (unhide Lx k hk')
      obtain ⟨v0, _, _, _, _, v5, v6, zv⟩ := (unhide QV).keep (unhide hb0)
      obtain ⟨S, hS⟩ : ∃ S : ByteArray, S = ⟨items[k].l.toArray⟩ := ⟨_, rfl⟩
      have eS := hide (show S.data.toList = items[k].l by rw [hS])
      have sS : S.size ≤ 1100 := by rw [hS]; show items[k].l.toArray.size ≤ _; rw [List.size_toArray]; exact sk
      rw [← hS] at qk
      clear hS hrow hok hgk sk
      generalize items[k] = P at *
      rcases k with _ | j
      · have dj : decide ((0 : Int) < 0) = false := by simp
        simp only [Nat.zero_mul, Nat.add_zero] at c0 c1 c2 c3
        have st := hide (show (X ++ S : ByteArray).data.toList = Lib.join (L.take 1) [44] by
          rw [join_first (unhide lx), ← unhide eS, ByteArray.data_append, Array.toList_append, unhide hX]
          rfl)
        have k1 : ¬ 9223372036854775807 < X.size + S.size := by omega
        clear lx eS hX
        go_wp2_with fail
        refine (unhide qk _).mono ?_
        rintro e w2 ⟨rfl, hb2⟩
        go_wp2_with fail
        exact ⟨⟨1, _, by omega, by go_num, rfl, hide (unhide st), hide (bTr (bAl (unhide hb) _) hb2), hide (bTr (bAl (unhide hb0) _) hb2)⟩, by simp [intOf]; omega⟩
      · have dj : decide (0 < (j : Int) + 1) = true := by simp; try omega
        have st := hide (show (X ++ ⟨#[44]⟩ ++ S : ByteArray).data.toList = Lib.join (L.take (j + 1 + 1)) [44] by
          rw [join_step (unhide lx) (by omega), ← unhide eS, ByteArray.data_append, ByteArray.data_append, Array.toList_append, Array.toList_append, unhide hX])
        have k1 : ¬ 9223372036854775806 < X.size := by omega
        have k2 : ¬ 9223372036854775807 < X.size + 1 + S.size := by omega
        clear lx eS hX
        go_wp2_with fail
        refine (unhide qk _).mono ?_
        rintro e w2 ⟨rfl, hb2⟩
        go_wp2_with fail
        exact ⟨⟨j + 1 + 1, _, by omega, by go_num, rfl, hide (unhide st), hide (bTr (bAl (unhide hb) _) hb2), hide (bTr (bAl (unhide hb0) _) hb2)⟩, by simp [intOf]; omega⟩
    · have e : k = l1 := by omega
      obtain ⟨v0, _, _, _, _, v5, v6, zv⟩ := (unhide QV).keep (unhide hb0)
      have fin := hide (show (⟨#[91]⟩ ++ X ++ ⟨#[93]⟩ : ByteArray) = ⟨(91 :: (Lib.join L [44] ++ [93])).toArray⟩ by
        apply ByteArray.ext
        apply Array.toList_inj.1
        have : L.take k = L := List.take_of_length_le (by rw [unhide LL]; omega)
        have h := unhide hX
        rw [this] at h
        simp [ByteArray.data_append, h])
      have k1 : ¬ 9223372036854775807 < 1 + X.size := by omega
      have k2 : ¬ 9223372036854775806 < 1 + X.size := by omega
      have k3 : ¬ 9223372036854775807 < 1 + X.size + 1 := by omega
      clear e
      go_wp2_with fail
      go_ret
      exact ⟨by rw [← unhide fin]; rfl, unhide hb⟩
end Go.Proofs.YthemcakenammdaaGreatDoor.V
