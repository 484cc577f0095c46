/- WVtT, WVtI, one behind the other. -/
import Derived.Test.YthemcakenammdaaGreatDoorJ23
/- spec.ValueText of a record; of any value. -/
namespace Go.Proofs.YthemcakenammdaaGreatDoor.V
open Go.RowKit

set_option maxHeartbeats 1000000 in
theorem sValueText_3 (items : List AtomT) (names : List ByteArray) (hv : ValT.Ok ⟨3, ⟨0, 0, ⟨#[]⟩, ⟨#[]⟩⟩, items, names⟩) (a1 a2 : Option Addr) (l1 c1 l2 c2 : Nat) (w : World) (hs : SlA w a1 l1 items) (hs2 : SlS w a2 l2 names) (hg : GoodVal ⟨3, ⟨0, 0, ⟨#[]⟩, ⟨#[]⟩⟩, items, names⟩)
    (h50 : items.length ≤ 50) (hA : AllA items items.length) (hn : names.length = items.length) (hN : AllN names names.length) (L : List (List UInt8)) (hL : L = List.zipWith (fun n a => n.data.toList ++ 58 :: AtomT.l a) names items) :
    Calls Tryz.prog 16 #[.agg #[.int .i64 3, .int .i64 0, .int .i64 0, .string ⟨#[]⟩, .string ⟨#[]⟩, .slice a1 l1 c1, .slice a2 l2 c2]] w
      fun e w' => e = .returned (.string ⟨(123 :: (Lib.join L [44] ++ [125])).toArray⟩) ∧ Below w.heap.size w w' := by
  have q := hide (fun w hs hs2 => sGoodValue_any ⟨3, ⟨0, 0, ⟨#[]⟩, ⟨#[]⟩⟩, items, names⟩ hv a1 a2 l1 c1 l2 c2 w hs hs2)
  have hi := hv.items
  have l50 : l1 ≤ 50 := by rw [hs.1]; exact h50
  have HS := hide hs
  have HS2 := hide hs2
  have QV0 := hide (ValAt.new w ⟨3, ⟨0, 0, ⟨#[]⟩, ⟨#[]⟩⟩, items, names⟩ (.slice a1 l1 c1) (.slice a2 l2 c2) 33)
  have HL := hide hL
  have NE := hide (show l2 = l1 by rw [hs2.1, hs.1]; exact hn)
  have NN := hide hn
  have HN := hide hN
  have Lx := hide (show ∀ k (h : k < items.length) (h' : k < names.length), L[k]? = some (names[k].data.toList ++ 58 :: items[k].l) from fun k h h' => by rw [hL, List.getElem?_zipWith, List.getElem?_eq_getElem h, List.getElem?_eq_getElem h'])
  have LL := hide (show L.length = l1 by rw [hL, List.length_zipWith, hn, Nat.min_self]; exact hs.1.symm)
  have Lb := hide (show ∀ x ∈ L, x.length ≤ 1140 from fun x hx => by
    obtain ⟨i, hi', rfl⟩ := List.getElem_of_mem hx
    have h1 : i < items.length := by rw [← hs.1]; have := unhide LL; omega
    have h2 : i < names.length := by omega
    have e := unhide Lx i h1 h2
    rw [List.getElem?_eq_getElem hi'] at e
    rw [Option.some.inj e]
    have a := AtomT.l_len (hi _ (List.getElem_mem h1)) (hA i h1 h1)
    have b := name_len (hN i h2 h2)
    have b' : names[i].data.toList.length ≤ 30 := b
    simp only [List.length_append, List.length_cons]
    omega)
  have HA := hide hA
  clear hs hs2 hL hA hn hN
  go_enter Tryz.func16, Tryz.ntmps16
  go_wp2_with fail
  refine (unhide q _ ((unhide HS).keep (bAl (Below.refl _ _) _)) ((unhide HS2).keep (bAl (Below.refl _ _) _))).mono ?_
  rintro e W0 ⟨hr, hb1⟩
  obtain rfl := retB_yes hr hg
  have QV := hide ((unhide QV0).keep hb1)
  have B0 := hide (bTr (bAl (Below.refl w.heap.size w) _) hb1)
  clear hb1 hr QV0
  obtain ⟨v0, _, _, _, _, v5, _, zv⟩ := (unhide QV)
  go_wp2_with fail
  go_loopw [3, 18] (fun o i w' => ∃ (k : Nat) (X : ByteArray), k ≤ l1 ∧ i = .int .i64 k ∧ o = .string X ∧ Hid (X.data.toList = Lib.join (L.take k) [44]) ∧ Hid (Below w.heap.size w w') ∧ Hid (Below W0.heap.size W0 w')) (fun _ i _ => l1 - (intOf i).toNat)
  case atStart => exact ⟨0, ⟨#[]⟩, Nat.zero_le _, rfl, rfl, hide rfl, B0, hide (Below.refl _ _)⟩
  case round =>
    obtain ⟨k, X, hk, rfl, rfl, hX, hb, hb0⟩ := hrel
    have sX : X.size ≤ 57050 := by
      have e : X.data.toList.length = X.size := by simp
      rw [← e, unhide hX]
      have := join_bound [44] rfl 1140 (L.take k) (fun x hx => unhide Lb x (List.mem_of_mem_take hx))
      have z : (L.take k).length ≤ 50 := by rw [List.length_take]; omega
      have y := Nat.mul_le_mul_left (1140 + 1) z
      omega
    by_cases hlt : k < l1
    · have hk' : k < items.length := by rw [← (unhide HS).1]; exact hlt
      obtain ⟨b, off, rfl, hrow⟩ := ((unhide HS).keep (unhide hb)).at hlt
      obtain ⟨c0, c1, c2, c3⟩ := hrow.c k hk'
      have zk := hrow.z
      have hok := hi _ (List.getElem_mem hk')
      have hgk := unhide HA k hk' hk'
      have qk := hide (fun w => AtomT.isText items[k] hok hgk w)
      have sk := AtomT.l_len hok hgk
      have lx := hide (unhide Lx k hk' (by rw [unhide NN]; exact hk'))
      obtain ⟨v0, _, _, _, _, v5, v6, zv⟩ := (unhide QV).keep (unhide hb0)
      obtain ⟨S, hS⟩ : ∃ S : ByteArray, S = ⟨items[k].l.toArray⟩ := ⟨_, rfl⟩
      have eS := hide (show S.data.toList = items[k].l by rw [hS])
      have sS : S.size ≤ 1100 := by rw [hS]; show items[k].l.toArray.size ≤ _; rw [List.size_toArray]; exact sk
      rw [← hS] at qk
      clear hS hrow hok hgk sk
      have hk2 : k < names.length := by rw [unhide NN]; exact hk'
      obtain ⟨b2, off2, rfl, hrow2⟩ := ((unhide HS2).keep (unhide hb)).at (k := k) (by rw [unhide NE]; exact hlt)
      have d0 := hrow2.c k hk2
      have zd := hrow2.z
      have sN := name_len (unhide HN k hk2 hk2)
      have i1 : (k : Int) < (l2 : Int) := by rw [unhide NE]; omega
      have i2 : k < l2 := by rw [unhide NE]; omega
      clear hrow2
      generalize names[k] = N at *
      generalize items[k] = P at *
      rcases k with _ | j
      · have dj : decide ((0 : Int) < 0) = false := by simp
        simp only [Nat.zero_mul, Nat.add_zero] at c0 c1 c2 c3
        simp only [Nat.add_zero] at d0
        have st := hide (show (X ++ (N ++ ⟨#[58]⟩) ++ S : ByteArray).data.toList = Lib.join (L.take 1) [44] by
          rw [join_first (unhide lx), ← unhide eS, ByteArray.data_append, ByteArray.data_append, ByteArray.data_append, Array.toList_append, Array.toList_append, Array.toList_append, unhide hX]
          simp [Lib.join, List.intercalate])
        have k1 : ¬ 9223372036854775806 < N.size := by omega
        have k2 : ¬ 9223372036854775807 < X.size + (N.size + 1) := by omega
        have k3 : ¬ 9223372036854775807 < X.size + (N.size + 1) + S.size := by omega
        clear lx eS hX
        go_wp2_with fail
        refine (unhide qk _).mono ?_
        rintro e w2 ⟨rfl, hb2⟩
        go_wp2_with fail
        exact ⟨⟨1, _, by omega, by go_num, rfl, hide (unhide st), hide (bTr (bAl (unhide hb) _) hb2), hide (bTr (bAl (unhide hb0) _) hb2)⟩, by simp [intOf]; omega⟩
      · have dj : decide (0 < (j : Int) + 1) = true := by simp; try omega
        have st := hide (show (X ++ ⟨#[44]⟩ ++ (N ++ ⟨#[58]⟩) ++ S : ByteArray).data.toList = Lib.join (L.take (j + 1 + 1)) [44] by
          rw [join_step (unhide lx) (by omega), ← unhide eS]
          simp [ByteArray.data_append, unhide hX])
        have k0 : ¬ 9223372036854775806 < X.size := by omega
        have k1 : ¬ 9223372036854775806 < N.size := by omega
        have k2 : ¬ 9223372036854775807 < X.size + 1 + (N.size + 1) := by omega
        have k3 : ¬ 9223372036854775807 < X.size + 1 + (N.size + 1) + S.size := by omega
        clear lx eS hX
        go_wp2_with fail
        refine (unhide qk _).mono ?_
        rintro e w2 ⟨rfl, hb2⟩
        go_wp2_with fail
        exact ⟨⟨j + 1 + 1, _, by omega, by go_num, rfl, hide (unhide st), hide (bTr (bAl (unhide hb) _) hb2), hide (bTr (bAl (unhide hb0) _) hb2)⟩, by simp [intOf]; omega⟩
    · have e : k = l1 := by omega
      obtain ⟨v0, _, _, _, _, v5, v6, zv⟩ := (unhide QV).keep (unhide hb0)
      have fin := hide (show (⟨#[123]⟩ ++ X ++ ⟨#[125]⟩ : ByteArray) = ⟨(123 :: (Lib.join L [44] ++ [125])).toArray⟩ by
        apply ByteArray.ext
        apply Array.toList_inj.1
        have : L.take k = L := List.take_of_length_le (by rw [unhide LL]; omega)
        have h := unhide hX
        rw [this] at h
        simp [ByteArray.data_append, h])
      have k1 : ¬ 9223372036854775807 < 1 + X.size := by omega
      have k2 : ¬ 9223372036854775806 < 1 + X.size := by omega
      have k3 : ¬ 9223372036854775807 < 1 + X.size + 1 := by omega
      clear e
      go_wp2_with fail
      go_ret
      exact ⟨by rw [← unhide fin]; rfl, unhide hb⟩

theorem sValueText_yes (v : ValT) (hv : v.Ok) (a1 a2 : Option Addr) (l1 c1 l2 c2 : Nat) (w : World) (hs : SlA w a1 l1 v.items) (hs2 : SlS w a2 l2 v.names) (hg : GoodVal v) :
    Calls Tryz.prog 16 #[.agg #[.int .i64 v.k, .int .i64 v.a.x, .int .i64 v.a.n, .string v.a.t, .string v.a.y, .slice a1 l1 c1, .slice a2 l2 c2]] w
      fun e w' => e = .returned (.string ⟨(valL v).toArray⟩) ∧ Below w.heap.size w w' := by
  have hg0 := hg
  obtain ⟨k, A, items, names⟩ := v
  rcases hg with ⟨h1, h2, h3, h4⟩ | ⟨h1, h2, h3, h4, h5, h6⟩ | ⟨h1, h2, h3, h4, h5, h6, h7⟩
  · simp only at h1 h2
    subst h1
    exact sValueText_1 A items names hv a1 a2 l1 c1 l2 c2 w hs hs2 hg0 h2
  · simp only at h1 h2 h3 h4
    subst h1
    obtain rfl := zeroA_eq h2
    exact sValueText_2 items names hv a1 a2 l1 c1 l2 c2 w hs hs2 hg0 h3 h4 _ rfl
  · simp only at h1 h2 h3 h4 h5 h6
    subst h1
    obtain rfl := zeroA_eq h2
    exact sValueText_3 items names hv a1 a2 l1 c1 l2 c2 w hs hs2 hg0 h3 h4 h5 h6 _ rfl
end Go.Proofs.YthemcakenammdaaGreatDoor.V
/- impl.ValueText. -/
namespace Go.Proofs.YthemcakenammdaaGreatDoor.V
open Go.RowKit

theorem AtomT.iText (a : AtomT) (h : a.Ok) (hg : a.good = true) (w : World) (hT : Tab w) : Calls Tryz.prog 44 #[.agg #[.int .i64 a.x, .int .i64 a.n, .string a.t, .string a.y]] w fun e w' => e = .returned (.string ⟨a.l.toArray⟩) ∧ Below w.heap.size w w' := by
  have := iAtomText_any a.x a.n a.t a.y w h.n8 h.n9 h.t9 h.y9 hT
  unfold atomT at this
  rw [if_pos (show goodAtom a.x a.n a.t a.y = true from hg)] at this
  exact this

theorem join_ownC {w : World} {base : Nat} {v : Value} {L : List (List UInt8)} (h : w.ownsRow base 9 1 v L.length (strsV L)) (hL : L.length ≤ 100) (m : Nat) (hm : m ≤ 100000) (hx : ∀ x ∈ L, x.length ≤ m) :
    Calls Tryz.prog 45 #[v, .string ⟨#[44]⟩] w fun e w' => e = .returned (.string ⟨(Lib.join L [44]).toArray⟩) ∧ Below w.heap.size w w' := by
  rcases h.2 with ⟨rfl, e⟩ | ⟨g, cap, cur, rfl, _, hh, hc, _, hsz, htk⟩
  · have : L = [] := List.length_eq_zero_iff.1 e
    subst this
    refine (Tryz.strings_Join_none none 0 ⟨#[44]⟩ w).mono ?_
    rintro e w' ⟨rfl, rfl⟩
    exact ⟨rfl, Below.refl _ _⟩
  · have hr : V.RowIs w g cur 9 := hh
    have hlt : g < w.heap.size := (Array.getElem?_eq_some_iff.1 hh).1
    have hlen := join_bound [44] rfl m L hx
    have hle : (m + 1) * L.length ≤ 100001 * 100 := Nat.mul_le_mul (by omega) hL
    have := Tryz.strings_Join g 0 cap (L.map fun x => ⟨x.toArray⟩) ⟨#[44]⟩ w (fun j x hj => by
        have f0 : (strsV L)[j]? = some (.string x) := by
          unfold strsV
          rw [List.getElem?_map] at hj ⊢
          obtain ⟨y, h1, h2⟩ := Option.map_eq_some_iff.1 hj
          rw [h1]; simp [← h2]
        rw [← htk, List.getElem?_take] at f0
        rw [Nat.zero_add, hr.cell, ← Array.getElem?_toList]
        split at f0
        · exact f0
        · cases f0) hlt (by simp; omega) (by simpa using hc) (by
        have e : (L.map fun x => (⟨x.toArray⟩ : ByteArray)).map (·.data.toList) = L := by rw [List.map_map]; exact List.map_id'' (fun x => by simp) L
        rw [e]
        show (Lib.join L [44]).length ≤ _
        omega)
    have e : (L.map fun x => (⟨x.toArray⟩ : ByteArray)).map (·.data.toList) = L := by rw [List.map_map]; exact List.map_id'' (fun x => by simp) L
    rw [e, List.length_map] at this
    exact this

theorem iValueText_not (v : ValT) (hv : v.Ok) (a1 a2 : Option Addr) (l1 c1 l2 c2 : Nat) (w : World) (hl : l1 ≤ maxLen) (hs : SlA w a1 l1 v.items) (hs2 : SlS w a2 l2 v.names) (hg : ¬ GoodVal v) :
    Calls Tryz.prog 22 #[.agg #[.int .i64 v.k, .int .i64 v.a.x, .int .i64 v.a.n, .string v.a.t, .string v.a.y, .slice a1 l1 c1, .slice a2 l2 c2]] w
      fun e w' => e = .returned (.string ⟨#[]⟩) ∧ Below w.heap.size w w' := by
  have q := hide (fun w hs hs2 => iGoodValue_any v hv a1 a2 l1 c1 l2 c2 w hl hs hs2)
  have HS := hide hs
  have HS2 := hide hs2
  clear hs hs2
  go_enter Tryz.func22, Tryz.ntmps22
  go_wp2_with fail
  refine (unhide q _ ((unhide HS).keep (bAl (Below.refl _ _) _)) ((unhide HS2).keep (bAl (Below.refl _ _) _))).mono ?_
  rintro e w1 ⟨hr, hb1⟩
  obtain rfl := retB_no hr hg
  go_wp2_with fail
  go_ret
  exact ⟨rfl, bTr (bAl (Below.refl _ _) _) hb1⟩

set_option maxHeartbeats 1000000 in
theorem iValueText_1 (A : AtomT) (items : List AtomT) (names : List ByteArray) (hv : ValT.Ok ⟨1, A, items, names⟩) (a1 a2 : Option Addr) (l1 c1 l2 c2 : Nat) (w : World) (hl : l1 ≤ maxLen) (hT : Tab w) (hs : SlA w a1 l1 items) (hs2 : SlS w a2 l2 names) (hg : GoodVal ⟨1, A, items, names⟩) (ha : A.good = true) :
    Calls Tryz.prog 22 #[.agg #[.int .i64 1, .int .i64 A.x, .int .i64 A.n, .string A.t, .string A.y, .slice a1 l1 c1, .slice a2 l2 c2]] w
      fun e w' => e = .returned (.string ⟨A.l.toArray⟩) ∧ Below w.heap.size w w' := by
  have q := hide (fun w hs hs2 => iGoodValue_any ⟨1, A, items, names⟩ hv a1 a2 l1 c1 l2 c2 w hl hs hs2)
  have qt := hide (fun w hT => A.iText hv.a ha w hT)
  have HT := hide hT
  have HS := hide hs
  have HS2 := hide hs2
  have QV := hide (ValAt.new w ⟨1, A, items, names⟩ (.slice a1 l1 c1) (.slice a2 l2 c2) 33)
  clear hs hs2
  go_enter Tryz.func22, Tryz.ntmps22
  go_wp2_with fail
  refine (unhide q _ ((unhide HS).keep (bAl (Below.refl _ _) _)) ((unhide HS2).keep (bAl (Below.refl _ _) _))).mono ?_
  rintro e w1 ⟨hr, hb1⟩
  obtain rfl := retB_yes hr hg
  obtain ⟨v0, v1, v2, v3, v4, v5, v6, zv⟩ := (unhide QV).keep hb1
  have B1 := hide (bTr (bAl (Below.refl w.heap.size w) _) hb1)
  clear hb1 hr
  go_wp2_with fail
  refine (unhide qt _ ((unhide HT).keep (unhide B1))).mono ?_
  rintro e w2 ⟨rfl, hb2⟩
  go_wp2_with fail
  go_ret
  exact ⟨rfl, bTr (unhide B1) hb2⟩

set_option maxHeartbeats 1000000 in
theorem iValueText_2 (items : List AtomT) (names : List ByteArray) (hv : ValT.Ok ⟨2, ⟨0, 0, ⟨#[]⟩, ⟨#[]⟩⟩, items, names⟩) (a1 a2 : Option Addr) (l1 c1 l2 c2 : Nat) (w : World) (hl : l1 ≤ maxLen) (hT : Tab w) (hs : SlA w a1 l1 items) (hs2 : SlS w a2 l2 names) (hg : GoodVal ⟨2, ⟨0, 0, ⟨#[]⟩, ⟨#[]⟩⟩, items, names⟩)
    (h50 : items.length ≤ 50) (hA : AllA items items.length) (L : List (List UInt8)) (hL : L = items.map AtomT.l) :
    Calls Tryz.prog 22 #[.agg #[.int .i64 2, .int .i64 0, .int .i64 0, .string ⟨#[]⟩, .string ⟨#[]⟩, .slice a1 l1 c1, .slice a2 l2 c2]] w
      fun e w' => e = .returned (.string ⟨(91 :: (Lib.join L [44] ++ [93])).toArray⟩) ∧ Below w.heap.size w w' := by
  have hgz := hT.lt
  have q := hide (fun w hs hs2 => iGoodValue_any ⟨2, ⟨0, 0, ⟨#[]⟩, ⟨#[]⟩⟩, items, names⟩ hv a1 a2 l1 c1 l2 c2 w hl hs hs2)
  have hi := hv.items
  obtain ⟨i0, hi0, hz0, hz1, hz2⟩ := info_parts info_str
  have l50 : l1 ≤ 50 := by rw [hs.1]; exact h50
  have HS := hide hs
  have HT := hide hT
  have HS2 := hide hs2
  have QV0 := hide (ValAt.new w ⟨2, ⟨0, 0, ⟨#[]⟩, ⟨#[]⟩⟩, items, names⟩ (.slice a1 l1 c1) (.slice a2 l2 c2) 33)
  have HL := hide hL
  have Lx := hide (show ∀ k (h : k < items.length), L[k]? = some items[k].l from fun k h => by rw [hL]; simp [h])
  have LL := hide (show L.length = l1 by rw [hL, List.length_map, hs.1])
  have Lb := hide (show ∀ x ∈ L, x.length ≤ 1100 from fun x hx => by
    rw [hL] at hx
    obtain ⟨a, ha, rfl⟩ := List.mem_map.1 hx
    obtain ⟨i, hi', rfl⟩ := List.getElem_of_mem ha
    exact AtomT.l_len (hi _ ha) (hA i hi' hi'))
  have HA := hide hA
  clear hs hs2 hL hA hT
  go_enter Tryz.func22, Tryz.ntmps22
  go_wp2_with fail
  refine (unhide q _ ((unhide HS).keep (bAl (Below.refl _ _) _)) ((unhide HS2).keep (bAl (Below.refl _ _) _))).mono ?_
  rintro e W0 ⟨hr, hb1⟩
  obtain rfl := retB_yes hr hg
  have QV := hide ((unhide QV0).keep hb1)
  have B0 := hide (bTr (bAl (Below.refl w.heap.size w) _) hb1)
  clear hb1 hr QV0
  obtain ⟨v0, _, _, _, _, v5, _, zv⟩ := (unhide QV)
  go_wp2_with fail
  go_loopw [3, 20] (fun v i w' => ∃ (k : Nat), k ≤ l1 ∧ i = .int .i64 k ∧ Hid (w'.ownsRow W0.heap.size 9 1 v k (strsV (L.take k))) ∧ Hid (Tab w') ∧ Hid (Below w.heap.size w w') ∧ Hid (Below W0.heap.size W0 w')) (fun _ i _ => l1 - (intOf i).toNat)
  case atStart => exact ⟨0, Nat.zero_le _, rfl, hide (World.ownsRow_nil _ _ _ _), hide ((unhide HT).keep (unhide B0)), B0, hide (Below.refl _ _)⟩
  case round =>
    obtain ⟨k, hk, rfl, hown, hT, hb, hb0⟩ := hrel
    by_cases hlt : k < l1
    · have hk' : k < items.length := by rw [← (unhide HS).1]; exact hlt
      obtain ⟨b, off, rfl, hrow⟩ := ((unhide HS).keep (unhide hb)).at hlt
      obtain ⟨c0, c1, c2, c3⟩ := hrow.c k hk'
      have zk := hrow.z
      have hok := hi _ (List.getElem_mem hk')
      have hgk := unhide HA k hk' hk'
      have qk := hide (fun w hT => AtomT.iText items[k] hok hgk w hT)
      have st := hide (show L.take (k + 1) = L.take k ++ [items[k].l] by rw [unhide HL, List.take_succ_eq_append_getElem (by simpa using hk')]; simp)
      clear hrow hok hgk
      generalize items[k].l = S at qk st
      generalize items[k] = P at *
      go_wp2_with fail
      refine (unhide qk _ ((unhide hT).keep (bAl (Below.refl _ _) _))).mono ?_
      rintro e w2 ⟨rfl, hb2⟩
      have o2 := hide (own_keepT ((unhide hown).alloc _) hb2)
      have t2 := hide (((unhide hT).keep (bAl (Below.refl _ _) _)).keep hb2)
      have b2 := hide (bTr (bAl (unhide hb) _) hb2)
      have b3 := hide (bTr (bAl (unhide hb0) _) hb2)
      clear hb2 qk c0 c1 c2 c3
      go_wp2_with (at_builtin; refine wpList_append_own_at _ rfl _ _ 25 rfl W0.heap.size 9 i0 _ 1 16 Tryz.underlying25 hi0 hz0 hz1 hz2 rfl (by decide) _ _ _ rfl ((unhide o2).alloc _) ⟨_, 0, none⟩ 1 1 [.string _] rfl rfl (cell_one_new _ _ _) (fun x hx => by simp at hx; subst hx; rfl) (by unfold maxLen; omega) (by omega) (by have := (unhide b3).size; simp; omega) ?_; intro v3 w3 hown3 hgrow3 _ hat3)
      refine ⟨⟨k + 1, by omega, by go_num, hide ?_, hide ((unhide t2).keepG hgrow3 (fun e => by have := ((unhide o2).lt _ e).1; omega)), hide ((bAl (unhide b2) _).grown hgrow3 (by have := (unhide b2).size; simp; omega) (fun j hj => by have := ((unhide o2).lt j hj).1; omega)), hide ((bAl (unhide b3) _).grown hgrow3 (by have := (unhide b3).size; simp; omega) (fun j hj => by have := ((unhide o2).lt j hj).1; omega))⟩, by simp [intOf]; omega⟩
      rw [unhide st]
      unfold strsV
      rw [List.map_append]
      exact hown3
    · have e : k = l1 := by omega
      subst e
      obtain ⟨v0, _, _, _, _, v5, v6, zv⟩ := (unhide QV).keep (unhide hb0)
      have e2 : L.take k = L := List.take_of_length_le (by rw [unhide LL]; exact Nat.le_refl _)
      have o1 : wr.ownsRow W0.heap.size 9 1 u3 L.length (strsV L) := by have := unhide hown; rw [e2] at this; rw [unhide LL]; exact this
      have qj := hide (join_ownC o1 (by rw [unhide LL]; omega) 1100 (by omega) (unhide Lb))
      have jb := join_bound [44] rfl 1100 L (unhide Lb)
      have y := Nat.mul_le_mul_left (1100 + 1) (show L.length ≤ 50 by rw [unhide LL]; exact l50)
      obtain ⟨X, hX⟩ : ∃ X : ByteArray, X = ⟨(Lib.join L [44]).toArray⟩ := ⟨_, rfl⟩
      have sX : X.size ≤ 55050 := by rw [hX]; show (Lib.join L [44]).toArray.size ≤ _; rw [List.size_toArray]; omega
      rw [← hX] at qj
      have fin := hide (show (⟨#[91]⟩ ++ X ++ ⟨#[93]⟩ : ByteArray) = ⟨(91 :: (Lib.join L [44] ++ [93])).toArray⟩ by
        apply ByteArray.ext
        apply Array.toList_inj.1
        rw [hX]
        simp [ByteArray.data_append])
      have k1 : ¬ 9223372036854775807 < 1 + X.size := by omega
      have k2 : ¬ 9223372036854775806 < 1 + X.size := by omega
      have k3 : ¬ 9223372036854775807 < 1 + X.size + 1 := by omega
      clear hX e2 o1 jb y
      go_wp2_with fail
      refine (unhide qj).mono ?_
      rintro e w2 ⟨rfl, hb2⟩
      go_wp2_with fail
      go_ret
      exact ⟨by rw [← unhide fin]; rfl, bTr (unhide hb) hb2⟩
end Go.Proofs.YthemcakenammdaaGreatDoor.V
