/- WVtJ, TId, one behind the other. -/
import Derived.Test.YthemcakenammdaaGreatDoorJ24
import Derived.Laws.OwnMore
import Derived.Test.YthemcakenammdaaGreatDoorJ8
/- impl.ValueText of a record; of any value. -/
namespace Go.Proofs.YthemcakenammdaaGreatDoor.V
open Go.RowKit

theorem mid_at {α : Type} {L T : List α} {m : Nat} (h : m ≤ L.length) : (L.take m ++ T.drop m)[m]? = T[m]? := by
  rw [List.getElem?_append_right (by rw [List.length_take]; omega), List.length_take, Nat.min_eq_left h, Nat.sub_self, List.getElem?_drop, Nat.add_zero]
theorem mid_set {α : Type} {L T : List α} {m : Nat} {x : α} (h : L[m]? = some x) (hT : m < T.length) : (L.take m ++ T.drop m).set m x = L.take (m + 1) ++ T.drop (m + 1) := by
  obtain ⟨hm, e⟩ := List.getElem?_eq_some_iff.1 h
  rw [List.set_append_right _ _ (by rw [List.length_take]; omega), List.length_take, Nat.min_eq_left (by omega), Nat.sub_self, List.drop_eq_getElem_cons hT, List.set_cons_zero, List.take_succ_eq_append_getElem hm, e]
  simp

set_option maxHeartbeats 1000000 in
theorem iValueText_3 (items : List AtomT) (names : List ByteArray) (hv : ValT.Ok ⟨3, ⟨0, 0, ⟨#[]⟩, ⟨#[]⟩⟩, items, names⟩) (a1 a2 : Option Addr) (l1 c1 l2 c2 : Nat) (w : World) (hl : l1 ≤ maxLen) (hT : Tab w) (hs : SlA w a1 l1 items) (hs2 : SlS w a2 l2 names) (hg : GoodVal ⟨3, ⟨0, 0, ⟨#[]⟩, ⟨#[]⟩⟩, items, names⟩)
    (h50 : items.length ≤ 50) (hA : AllA items items.length) (hn : names.length = items.length) (hN : AllN names names.length) (L : List (List UInt8)) (hL : L = List.zipWith (fun n a => n.data.toList ++ 58 :: AtomT.l a) names items) :
    Calls Tryz.prog 22 #[.agg #[.int .i64 3, .int .i64 0, .int .i64 0, .string ⟨#[]⟩, .string ⟨#[]⟩, .slice a1 l1 c1, .slice a2 l2 c2]] w
      fun e w' => e = .returned (.string ⟨(123 :: (Lib.join L [44] ++ [125])).toArray⟩) ∧ Below w.heap.size w w' := by
  have hgz := hT.lt
  have q := hide (fun w hs hs2 => iGoodValue_any ⟨3, ⟨0, 0, ⟨#[]⟩, ⟨#[]⟩⟩, items, names⟩ hv a1 a2 l1 c1 l2 c2 w hl hs hs2)
  have hi := hv.items
  obtain ⟨i0, hi0, hz0, hz1, hz2⟩ := info_parts info_str
  have l50 : l1 ≤ 50 := by rw [hs.1]; exact h50
  have HS := hide hs
  have HT := hide hT
  have HS2 := hide hs2
  have QV0 := hide (ValAt.new w ⟨3, ⟨0, 0, ⟨#[]⟩, ⟨#[]⟩⟩, items, names⟩ (.slice a1 l1 c1) (.slice a2 l2 c2) 33)
  have HL := hide hL
  have NE := hide (show l2 = l1 by rw [hs2.1, hs.1]; exact hn)
  have NN := hide hn
  have HN := hide hN
  have Lx := hide (show ∀ k (h : k < items.length) (h' : k < names.length), L[k]? = some (names[k].data.toList ++ 58 :: items[k].l) from fun k h h' => by rw [hL, List.getElem?_zipWith, List.getElem?_eq_getElem h, List.getElem?_eq_getElem h'])
  have LL := hide (show L.length = l1 by rw [hL, List.length_zipWith, hn, Nat.min_self]; exact hs.1.symm)
  have Lb := hide (show ∀ x ∈ L, x.length ≤ 1140 from fun x hx => by
    obtain ⟨i, hi', rfl⟩ := List.getElem_of_mem hx
    have h1 : i < items.length := by rw [← hs.1]; have := unhide LL; omega
    have h2 : i < names.length := by omega
    have e := unhide Lx i h1 h2
    rw [List.getElem?_eq_getElem hi'] at e
    rw [Option.some.inj e]
    have a := AtomT.l_len (hi _ (List.getElem_mem h1)) (hA i h1 h1)
    have b := name_len (hN i h2 h2)
    have b' : names[i].data.toList.length ≤ 30 := b
    simp only [List.length_append, List.length_cons]
    omega)
  obtain ⟨T, hTT⟩ : ∃ T, T = items.map AtomT.l := ⟨_, rfl⟩
  have HTT := hide hTT
  have TL := hide (show T.length = l1 by rw [hTT, List.length_map, hs.1])
  have Tx := hide (show ∀ k (h : k < items.length), T[k]? = some items[k].l from fun k h => by rw [hTT]; simp [h])
  have HA := hide hA
  clear hs hs2 hL hA hn hN hT hTT
  go_enter Tryz.func22, Tryz.ntmps22
  go_wp2_with fail
  refine (unhide q _ ((unhide HS).keep (bAl (Below.refl _ _) _)) ((unhide HS2).keep (bAl (Below.refl _ _) _))).mono ?_
  rintro e W0 ⟨hr, hb1⟩
  obtain rfl := retB_yes hr hg
  have QV := hide ((unhide QV0).keep hb1)
  have B0 := hide (bTr (bAl (Below.refl w.heap.size w) _) hb1)
  clear hb1 hr QV0
  obtain ⟨v0, _, _, _, _, v5, _, zv⟩ := (unhide QV)
  go_wp2_with fail
  go_loopw [3, 20] (fun v i w' => ∃ (k : Nat), k ≤ l1 ∧ i = .int .i64 k ∧ Hid (w'.ownsRow W0.heap.size 9 1 v k (strsV (T.take k))) ∧ Hid (Tab w') ∧ Hid (Below w.heap.size w w') ∧ Hid (Below W0.heap.size W0 w')) (fun _ i _ => l1 - (intOf i).toNat)
  case atStart => exact ⟨0, Nat.zero_le _, rfl, hide (World.ownsRow_nil _ _ _ _), hide ((unhide HT).keep (unhide B0)), B0, hide (Below.refl _ _)⟩
  case round =>
    obtain ⟨k, hk, rfl, hown, hT, hb, hb0⟩ := hrel
    by_cases hlt : k < l1
    · have hk' : k < items.length := by rw [← (unhide HS).1]; exact hlt
      obtain ⟨b, off, rfl, hrow⟩ := ((unhide HS).keep (unhide hb)).at hlt
      obtain ⟨c0, c1, c2, c3⟩ := hrow.c k hk'
      have zk := hrow.z
      have hok := hi _ (List.getElem_mem hk')
      have hgk := unhide HA k hk' hk'
      have qk := hide (fun w hT => AtomT.iText items[k] hok hgk w hT)
      have st := hide (show T.take (k + 1) = T.take k ++ [items[k].l] by rw [unhide HTT, List.take_succ_eq_append_getElem (by simpa using hk')]; simp)
      clear hrow hok hgk
      generalize items[k].l = S at qk st
      generalize items[k] = P at *
      go_wp2_with fail
      refine (unhide qk _ ((unhide hT).keep (bAl (Below.refl _ _) _))).mono ?_
      rintro e w2 ⟨rfl, hb2⟩
      have o2 := hide (own_keepT ((unhide hown).alloc _) hb2)
      have t2 := hide (((unhide hT).keep (bAl (Below.refl _ _) _)).keep hb2)
      have b2 := hide (bTr (bAl (unhide hb) _) hb2)
      have b3 := hide (bTr (bAl (unhide hb0) _) hb2)
      clear hb2 qk c0 c1 c2 c3
      go_wp2_with (at_builtin; refine wpList_append_own_at _ rfl _ _ 25 rfl W0.heap.size 9 i0 _ 1 16 Tryz.underlying25 hi0 hz0 hz1 hz2 rfl (by decide) _ _ _ rfl ((unhide o2).alloc _) ⟨_, 0, none⟩ 1 1 [.string _] rfl rfl (cell_one_new _ _ _) (fun x hx => by simp at hx; subst hx; rfl) (by unfold maxLen; omega) (by omega) (by have := (unhide b3).size; simp; omega) ?_; intro v3 w3 hown3 hgrow3 _ hat3)
      refine ⟨⟨k + 1, by omega, by go_num, hide ?_, hide ((unhide t2).keepG hgrow3 (fun e => by have := ((unhide o2).lt _ e).1; omega)), hide ((bAl (unhide b2) _).grown hgrow3 (by have := (unhide b2).size; simp; omega) (fun j hj => by have := ((unhide o2).lt j hj).1; omega)), hide ((bAl (unhide b3) _).grown hgrow3 (by have := (unhide b3).size; simp; omega) (fun j hj => by have := ((unhide o2).lt j hj).1; omega))⟩, by simp [intOf]; omega⟩
      rw [unhide st]
      unfold strsV
      rw [List.map_append]
      exact hown3
    · have e : k = l1 := by omega
      subst e
      obtain ⟨v0, _, _, _, _, v5, v6, zv⟩ := (unhide QV).keep (unhide hb0)
      have e2 : T.take k = T := List.take_of_length_le (by rw [unhide TL]; exact Nat.le_refl _)
      have O1 := hide (show wr.ownsRow W0.heap.size 9 1 u3 k (strsV (L.take 0 ++ T.drop 0)) by have := unhide hown; rw [e2] at this; simpa using this)
      clear e2 hown
      go_wp2_with fail
      go_loopw [40] (fun i w' => ∃ (m : Nat), m ≤ l2 ∧ i = .int .i64 m ∧ Hid (w'.ownsRow W0.heap.size 9 1 u3 k (strsV (L.take m ++ T.drop m))) ∧ Hid (Below w.heap.size w w') ∧ Hid (Below W0.heap.size W0 w')) (fun i _ => l2 - (intOf i).toNat)
      case atStart => exact ⟨0, Nat.zero_le _, rfl, O1, hb, hb0⟩
      case round =>
        clear O1 hb hb0 v0 v5 v6 zv
        obtain ⟨m, hm, rfl, hown, hb, hb0⟩ := hrel
        by_cases hlt2 : m < l2
        · have hm1 : m < k := by have := unhide NE; omega
          have hk' : m < items.length := by rw [← (unhide HS).1]; exact hm1
          have hk2 : m < names.length := by rw [unhide NN]; exact hk'
          obtain ⟨b2, off2, rfl, hrow2⟩ := ((unhide HS2).keep (unhide hb)).at (k := m) hlt2
          have d0 := hrow2.c m hk2
          have zd := hrow2.z
          have sN := name_len (unhide HN m hk2 hk2)
          have sk := AtomT.l_len (hi _ (List.getElem_mem hk')) (unhide HA m hk' hk')
          have lx := unhide Lx m hk' hk2
          have tx := unhide Tx m hk'
          clear hrow2
          generalize names[m] = N at *
          generalize items[m].l = S0 at *
          obtain ⟨S, hS⟩ : ∃ S : ByteArray, S = ⟨S0.toArray⟩ := ⟨_, rfl⟩
          have sS : S.size ≤ 1100 := by rw [hS]; show S0.toArray.size ≤ _; rw [List.size_toArray]; exact sk
          have eY := hide (show (N ++ ⟨#[58]⟩ ++ S : ByteArray) = ⟨(N.data.toList ++ 58 :: S0).toArray⟩ by
            rw [hS]
            apply ByteArray.ext
            apply Array.toList_inj.1
            simp [ByteArray.data_append])
          rcases (unhide hown).2 with ⟨_, e0⟩ | ⟨g, cap, cur, rfl, hgb, _⟩
          · omega
          have t0 : wr.cell? ⟨g, m, none⟩ = some (.string S) := by
            rw [(unhide hown).cellAt m (by omega), hS]
            have z : (L.take m ++ T.drop m)[m]? = some S0 := by rw [mid_at (by rw [unhide LL]; omega)]; exact tx
            unfold strsV
            rw [List.getElem?_map, z]
            rfl
          have fz := (unhide hown).frozenAt m
          have zg := ((unhide hown).lt g rfl).2
          have st := hide (fun y (hy : y = (⟨(N.data.toList ++ 58 :: S0).toArray⟩ : ByteArray)) => show (wr.setCell ⟨g, m, none⟩ (.string y)).ownsRow W0.heap.size 9 1 (.slice (some ⟨g, 0, none⟩) k cap) k (strsV (L.take (m + 1) ++ T.drop (m + 1))) by
            have := ((unhide hown).stored m (.string y)).1
            rw [← mid_set lx (by rw [unhide TL]; omega)]
            rw [hy] at this ⊢
            simpa [strsV, List.map_set] using this)
          have i1 : (m : Int) < (k : Int) := by omega
          have i2 : (m : Int) < (l2 : Int) := by omega
          have k1 : ¬ 9223372036854775806 < N.size := by omega
          have k2 : ¬ 9223372036854775807 < N.size + 1 + S.size := by omega
          have hgw : w.heap.size ≤ g := Nat.le_trans (unhide B0).size hgb
          have G1 := hide hgb
          have G2 := hide hgw
          clear lx tx hS sk hgb hgw
          go_wp2_with fail
          exact ⟨⟨m + 1, by omega, by go_num, hide (unhide st _ (unhide eY)), hide ((unhide hb).setCell (unhide G2) _), hide ((unhide hb0).setCell (unhide G1) _)⟩, by simp [intOf]; omega⟩
        · have e : m = l2 := by omega
          have o1 : wr.ownsRow W0.heap.size 9 1 u3 L.length (strsV L) := by
            have := unhide hown
            have q1 : L.take m = L := List.take_of_length_le (by rw [unhide LL]; have := unhide NE; omega)
            have q2 : T.drop m = [] := List.drop_of_length_le (by rw [unhide TL]; have := unhide NE; omega)
            rw [q1, q2, List.append_nil] at this
            rw [unhide LL]; exact this
          have qj := hide (join_ownC o1 (by rw [unhide LL]; omega) 1140 (by omega) (unhide Lb))
          have jb := join_bound [44] rfl 1140 L (unhide Lb)
          have y := Nat.mul_le_mul_left (1140 + 1) (show L.length ≤ 50 by rw [unhide LL]; exact l50)
          obtain ⟨X, hX⟩ : ∃ X : ByteArray, X = ⟨(Lib.join L [44]).toArray⟩ := ⟨_, rfl⟩
          have sX : X.size ≤ 57050 := by rw [hX]; show (Lib.join L [44]).toArray.size ≤ _; rw [List.size_toArray]; omega
          rw [← hX] at qj
          have fin := hide (show (⟨#[123]⟩ ++ X ++ ⟨#[125]⟩ : ByteArray) = ⟨(123 :: (Lib.join L [44] ++ [125])).toArray⟩ by
            apply ByteArray.ext
            apply Array.toList_inj.1
            rw [hX]
            simp [ByteArray.data_append])
          have k1 : ¬ 9223372036854775807 < 1 + X.size := by omega
          have k2 : ¬ 9223372036854775806 < 1 + X.size := by omega
          have k3 : ¬ 9223372036854775807 < 1 + X.size + 1 := by omega
          clear hX o1 jb y e
          go_wp2_with fail
          refine (unhide qj).mono ?_
          rintro e w2 ⟨rfl, hb2⟩
          go_wp2_with fail
          go_ret
          exact ⟨by rw [← unhide fin]; rfl, bTr (unhide hb) hb2⟩

theorem iValueText_yes (v : ValT) (hv : v.Ok) (a1 a2 : Option Addr) (l1 c1 l2 c2 : Nat) (w : World) (hl : l1 ≤ maxLen) (hT : Tab w) (hs : SlA w a1 l1 v.items) (hs2 : SlS w a2 l2 v.names) (hg : GoodVal v) :
    Calls Tryz.prog 22 #[.agg #[.int .i64 v.k, .int .i64 v.a.x, .int .i64 v.a.n, .string v.a.t, .string v.a.y, .slice a1 l1 c1, .slice a2 l2 c2]] w
      fun e w' => e = .returned (.string ⟨(valL v).toArray⟩) ∧ Below w.heap.size w w' := by
  have hg0 := hg
  obtain ⟨k, A, items, names⟩ := v
  rcases hg with ⟨h1, h2, h3, h4⟩ | ⟨h1, h2, h3, h4, h5, h6⟩ | ⟨h1, h2, h3, h4, h5, h6, h7⟩
  · simp only at h1 h2
    subst h1
    exact iValueText_1 A items names hv a1 a2 l1 c1 l2 c2 w hl hT hs hs2 hg0 h2
  · simp only at h1 h2 h3 h4
    subst h1
    obtain rfl := zeroA_eq h2
    exact iValueText_2 items names hv a1 a2 l1 c1 l2 c2 w hl hT hs hs2 hg0 h3 h4 _ rfl
  · simp only at h1 h2 h3 h4 h5 h6
    subst h1
    obtain rfl := zeroA_eq h2
    exact iValueText_3 items names hv a1 a2 l1 c1 l2 c2 w hl hT hs hs2 hg0 h3 h4 h5 h6 _ rfl
end Go.Proofs.YthemcakenammdaaGreatDoor.V
/- Ids: impl.isId, spec.l7Id. -/
namespace Go.Proofs.YthemcakenammdaaGreatDoor
open Go.RowKit
set_option maxRecDepth 20000

def idcB (c : UInt8) : Bool := namB (c.toNat : Int) || digB (c.toNat : Int) || !((c.toNat : Int) != 45) || !((c.toNat : Int) != 46)
def idB (s : ByteArray) : Bool := decide (1 ≤ s.size ∧ s.size ≤ 40) && s.data.toList.all idcB
theorem nam_let (n : Int) : namB n = (letB n || !(n != 95)) := by
  rw [Bool.eq_iff_iff]
  simp [namB, letB]
theorem idB_size {s : ByteArray} (h : s.size < 1 ∨ 40 < s.size) : idB s = false := by
  unfold idB
  rw [decide_eq_false (by omega)]; rfl
theorem idB_of {s : ByteArray} (h1 : 1 ≤ s.size) (h2 : s.size ≤ 40) : idB s = s.data.toList.all idcB := by
  unfold idB
  rw [decide_eq_true (by omega)]; rfl

set_option maxHeartbeats 1000000 in
theorem isId_any (s : ByteArray) (hs : s.size ≤ maxLen) (w : World) :
    Calls Tryz.prog 24 #[.string s] w fun e w' => e = .returned (.bool (idB s)) ∧ Below w.heap.size w w' := by
  unfold maxLen at hs
  by_cases h1 : s.size < 1
  · have hg := hide (idB_size (s := s) (.inl h1))
    obtain rfl : s = ByteArray.empty := ByteArray.ext (Array.eq_empty_of_size_eq_zero (by show s.size = 0; omega))
    go_enter Tryz.func24, Tryz.ntmps24
    go_wp2
    go_ret
    exact ⟨ret_bool (unhide hg).symm, Below.refl _ _⟩
  have he := isEmpty_of h1
  by_cases h2 : 40 < s.size
  · have hg := hide (idB_size (s := s) (.inr h2))
    go_enter Tryz.func24, Tryz.ntmps24
    go_wp2
    go_ret
    exact ⟨ret_bool (unhide hg).symm, Below.refl _ _⟩
  have hg := hide (idB_of (s := s) (by omega) (by omega))
  have d2 : decide (40 < (s.size : Int)) = false := by simp; omega
  obtain ⟨cap, w1, hrun, hbel, hcell⟩ := conv_bytes s w
  go_enter Tryz.func24, Tryz.ntmps24
  go_wp2_with fail
  go_loop [15] (fun i => ∃ k : Nat, k ≤ s.size ∧ i = .int .i64 k ∧ Hid ((s.data.toList.take k).all idcB = true)) (fun i => s.size - (intOf i).toNat)
  case atStart => exact ⟨0, Nat.zero_le _, rfl, hide (by simp)⟩
  case round =>
    obtain ⟨k, hk, rfl, hall⟩ := hrel
    by_cases hlt : k < s.size
    · have hck := hcell k hlt
      have hok : idcB s[k] = (namB (s[k].toNat : Int) || digB (s[k].toNat : Int) || !((s[k].toNat : Int) != 45) || !((s[k].toNat : Int) != 46)) := rfl
      clear hcell hrun
      cases hl : namB (s[k].toNat : Int) <;> cases hdd : digB (s[k].toNat : Int) <;> cases h45 : ((s[k].toNat : Int) != 45) <;> cases h46 : ((s[k].toNat : Int) != 46)
      all_goals
        rw [hl, hdd, h45, h46] at hok
        have HL := hide hl
        have HD := hide hdd
        have HK := hide hok
        clear hl hdd hok
        go_wp2_with (first | (go_at_call 46; refine (startsName_any _ _).mono ?_; rintro e w' ⟨rfl, rfl⟩; rw [unhide HL]) | (go_at_call 47; refine (isDigit_any _ _).mono ?_; rintro e w' ⟨rfl, rfl⟩; rw [unhide HD]))
        first
          | exact ⟨⟨k + 1, by omega, by go_num, hide (by rw [all_take_succ _ _ _ hlt, unhide hall, unhide HK]; rfl)⟩, by simp [intOf]; omega⟩
          | (go_ret; exact ⟨ret_bool (by rw [unhide hg, all_false_of _ s k hlt (unhide HK)]), hbel⟩)
    · go_wp2
      go_ret
      have e : k = s.size := by omega
      subst e
      refine ⟨ret_bool ?_, hbel⟩
      rw [unhide hg, ← take_whole s, unhide hall]

set_option maxHeartbeats 1000000 in
theorem l7Id_any (s : ByteArray) (hs : s.size ≤ maxLen) (w : World) :
    Calls Tryz.prog 13 #[.string s] w fun e w' => e = .returned (.bool (idB s)) ∧ Below w.heap.size w w' := by
  unfold maxLen at hs
  go_enter Tryz.func13, Tryz.ntmps13
  go_wp2_with fail
  go_loop [3] (fun i => ∃ k : Nat, k ≤ s.size ∧ i = .int .i64 k ∧ Hid ((s.data.toList.take k).all idcB = true)) (fun i => s.size - (intOf i).toNat)
  case atStart => exact ⟨0, Nat.zero_le _, rfl, hide (by simp)⟩
  case round =>
    obtain ⟨k, hk, rfl, hall⟩ := hrel
    by_cases hlt : k < s.size
    · have hok : idcB s[k] = (letB (s[k].toNat : Int) || !((s[k].toNat : Int) != 95) || digB (s[k].toNat : Int) || !((s[k].toNat : Int) != 45) || !((s[k].toNat : Int) != 46)) := by unfold idcB; rw [nam_let]
      cases hl : letB (s[k].toNat : Int) <;> cases hdd : digB (s[k].toNat : Int) <;> cases h95 : ((s[k].toNat : Int) != 95) <;> cases h45 : ((s[k].toNat : Int) != 45) <;> cases h46 : ((s[k].toNat : Int) != 46)
      all_goals
        rw [hl, hdd, h95, h45, h46] at hok
        have HL := hide hl
        have HD := hide hdd
        have HK := hide hok
        clear hl hdd hok
        go_wp2_with (first | (go_at_call 33; refine (l1Letter_any _ _).mono ?_; rintro e w' ⟨rfl, rfl⟩; rw [unhide HL]) | (go_at_call 34; refine (l1Digit_any _ _).mono ?_; rintro e w' ⟨rfl, rfl⟩; rw [unhide HD]))
        first
          | exact ⟨⟨k + 1, by omega, by go_num, hide (by rw [all_take_succ _ _ _ hlt, unhide hall, unhide HK]; rfl)⟩, by simp [intOf]; omega⟩
          | (go_ret; exact ⟨ret_bool (by unfold idB; rw [all_false_of _ s k hlt (unhide HK), Bool.and_false]), Below.refl _ _⟩)
    · have e : k = s.size := by omega
      subst e
      have ha := hide (show s.data.toList.all idcB = true by rw [← take_whole s]; exact unhide hall)
      by_cases h1 : 1 ≤ s.size
      · by_cases h2 : s.size ≤ 40
        · go_wp2_with fail
          go_ret
          exact ⟨ret_bool (by rw [idB_of h1 h2, unhide ha]; exact decide_eq_true (by omega)), Below.refl _ _⟩
        · go_wp2_with fail
          go_ret
          exact ⟨ret_bool (by rw [idB_size (.inr (by omega))]; exact decide_eq_false (by omega)), Below.refl _ _⟩
      · go_wp2_with fail
        go_ret
        exact ⟨ret_bool (by rw [idB_size (.inl (by omega))]), Below.refl _ _⟩
end Go.Proofs.YthemcakenammdaaGreatDoor
