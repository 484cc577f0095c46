/- spec.l20Text, l20Bound, DocText. -/
import Derived.Test.YtdhpfhpegaekpaaDoorEMd
namespace Go.Proofs.YtdhpfhpegaekpaaDoor.V
set_option linter.unusedSimpArgs false
set_option linter.unusedVariables false
open Go.RowKit

theorem esc_e (s : ByteArray) (w : World) (hs : s.size ≤ 200) :
    Calls Tryd.prog 25 #[.string s] w fun e w' => (∃ S : ByteArray, e = .returned (.string S) ∧ Hid (S.data.toList = ex s.data.toList) ∧ S.size ≤ 1200) ∧ Below w.heap.size w w' :=
  (escaped_s s w (by omega)).mono fun e w' h => ⟨⟨_, h.1, hide rfl, by
    have := ex_len s.data.toList
    rw [Lib.size_eq] at hs ⊢
    simp only
    omega⟩, h.2⟩
/-- What each element of a tree is, in a world. -/
def OkE (w : World) (x : ElemE) : Prop := RightE x.t ∧ ElemM w 0 x
theorem AllD.keep {w w' : World} (hb : Below w.heap.size w w') : ∀ {t : DT}, AllD (OkE w) t → AllD (OkE w') t
  | _, .mk h1 h2 => .mk ⟨h1.1, h1.2.keep hb⟩ fun t ht => AllD.keep hb (h2 t ht)
def TxS (r lo : Nat) : Prop := ∀ (t : DT) (s : Value) (w : World), TrD r w lo s t → AllD (OkE w) t → t.tx.length ≤ 720000 →
  Calls Tryd.prog 15 #[agg7 t.n t.at s] w fun e w' => e = .returned (.string ⟨t.tx.toArray⟩) ∧ Below w.heap.size w w'
set_option maxRecDepth 100000 in
set_option maxHeartbeats 16000000 in
theorem text_step (r lo : Nat) (IH : TxS r lo) : TxS (r + 1) lo := by
  intro t s w ht hA hlen
  obtain ⟨x, j, ks⟩ := t
  obtain ⟨h4, hk20, a, cap, rfl, hb⟩ := ht
  obtain ⟨⟨hre, hme⟩, hks⟩ := hA.out
  simp only [DT.n, DT.at, DT.kids] at h4 hk20 hb hre hme hks ⊢
  rw [tx_node] at hlen ⊢
  obtain ⟨⟨n0, n1, n2, n3, n4⟩, ⟨a2, s2, p2⟩, ⟨a3, s3, p3⟩⟩ := x
  simp only at h4
  subst h4
  have L0 : n0.size ≤ 30 := gnm_len hre.nm
  have L1 : n1.size ≤ 200 := gtx_len hre.tx
  have hn8 : n2.length ≤ 8 := hre.n8
  have HN3 := hide (show n3.length = n2.length from hre.vl)
  have s2l : s2 = n2.length := hme.m2.1
  have s3l : s3 = n3.length := hme.m3.1
  subst s2l s3l
  have GN := hide (show ∀ q ∈ n2, ByteArray.size q ≤ 30 from fun q hq => gnm_len (hre.nn q hq))
  have GV := hide (show ∀ q ∈ n3, ByteArray.size q ≤ 200 from fun q hq => gtx_len (hre.vv q hq))
  have M2 := hide hme.m2
  have M3 := hide hme.m3
  have HLEN := hide hlen
  have HKS := hide hks
  have HBK := hide hb
  obtain ⟨W1, hW1⟩ : ∃ W, W = w.alloc (.cells #[.string n0, .string n1, .slice a2 n2.length p2, .slice a3 n3.length p3, .int .i64 (ks.length : Int), .int .i64 (j : Int), .slice a ks.length cap] 38) := ⟨_, rfl⟩
  have b1 : Below w.heap.size w W1 := by rw [hW1]; exact bAl (Below.refl _ _) _
  have R1 := hide (show RowIs W1 w.heap.size #[.string n0, .string n1, .slice a2 n2.length p2, .slice a3 n3.length p3, .int .i64 (ks.length : Int), .int .i64 (j : Int), .slice a ks.length cap] 38 by rw [hW1]; exact RowIs.new _ _ _)
  have HW1 := hide hW1.symm
  have B1 := hide b1
  clear hW1 b1 hre hme hlen hks hb hA
  go_enter Tryd.func15, Tryd.ntmps15
  go_upto_region 1 with fail
  refine wp_worldD (unhide HW1) ?_
  clear HW1
  have e0 := (unhide R1).at (o := 0) (v := .string n0) rfl
  have e2 := (unhide R1).at (o := 2) (v := .slice a2 n2.length p2) rfl
  have ez := (unhide R1).lt
  go_wp2_with fail
  go_loopw [3, 16] (fun u q w' => ∃ (i : Nat) (o : ByteArray), i ≤ n2.length ∧ q = .int .i64 i ∧ u = .string o ∧ Hid (RowIs w' w.heap.size #[.string n0, .string n1, .slice a2 n2.length p2, .slice a3 n3.length p3, .int .i64 (ks.length : Int), .int .i64 (j : Int), .slice a ks.length cap] 38) ∧ Hid (Below w.heap.size w w') ∧ Hid (o.data.toList = [60] ++ n0.data.toList ++ ((n2.zip n3).take i).flatMap attr)) (fun _ q _ => n2.length - (Go.RowKit.intOf q).toNat)
  case atStart => exact ⟨0, _, Nat.zero_le _, rfl, rfl, R1, B1, hide (by rw [bapp]; simp)⟩
  case round =>
    obtain ⟨i, o, hi, rfl, rfl, HX, HW, HA⟩ := hrel
    clear R1 B1 e0 e2 ez
    have hol : o.size ≤ 20000 := by
      rw [Lib.size_eq, unhide HA]
      have q := flat_len attr 1300 ((n2.zip n3).take i) (fun p hp => by
        have hz := List.of_mem_zip (List.mem_of_mem_take hp)
        have := unhide GN _ hz.1
        have := unhide GV _ hz.2
        have := ex_len p.2.data.toList
        have g1 := Lib.size_eq p.1
        have g2 := Lib.size_eq p.2
        simp only [attr, List.length_append, List.length_cons, List.length_nil]
        omega)
      have q2 : ((n2.zip n3).take i).length ≤ 8 := by rw [List.length_take, List.length_zip]; omega
      have := Nat.mul_le_mul_right 1300 q2
      have := Lib.size_eq n0
      simp only [List.length_append, List.length_cons, List.length_nil]
      omega
    by_cases hlt : i < n2.length
    · obtain ⟨b2, o2, rfl, r2⟩ := ((unhide M2).keep (unhide HW)).sl.at hlt
      have k3 : i < n3.length := by rw [unhide HN3]; exact hlt
      obtain ⟨b3, o3, rfl, r3⟩ := ((unhide M3).keep (unhide HW)).sl.at k3
      have cn2 : wr.cell? ⟨b2, o2 + i, none⟩ = some (.string n2[i]) := r2.c i hlt
      have cn3 : wr.cell? ⟨b3, o3 + i, none⟩ = some (.string n3[i]) := r3.c i k3
      have z2 := r2.z
      have z3 := r3.z
      have y2 := unhide GN _ (List.getElem_mem hlt)
      have y3 := unhide GV _ (List.getElem_mem k3)
      have ZT := hide (zip_take n2 n3 i hlt k3)
      clear r2 r3
      obtain ⟨Nm, hNm⟩ : ∃ A, n2[i] = A := ⟨_, rfl⟩
      obtain ⟨V, hV⟩ : ∃ V, n3[i] = V := ⟨_, rfl⟩
      rw [hNm, hV] at ZT
      rw [hNm] at cn2 y2
      rw [hV] at cn3 y3
      clear hNm hV
      have f3 := (unhide HX).at (o := 3) (v := .slice (some ⟨b3, o3, none⟩) n3.length p3) rfl
      have fz := (unhide HX).lt
      go_wp2_with fail
      refine (esc_e V _ y3).mono ?_
      rintro e w4 ⟨⟨S, rfl, hS, hSl⟩, hb4⟩
      have X4 := hide ((unhide HX).keep hb4)
      have W4 := hide (bTr (unhide HW) hb4)
      have AE := hide (show (o ++ (⟨#[32]⟩ ++ Nm ++ ⟨#[61, 34]⟩ ++ S ++ ⟨#[34]⟩) : ByteArray).data.toList = [60] ++ n0.data.toList ++ ((n2.zip n3).take (i + 1)).flatMap attr from by
        rw [unhide ZT, List.flatMap_append, bapp, unhide HA]
        simp only [bapp, unhide hS, attr, List.flatMap_cons, List.flatMap_nil, List.append_nil, List.append_assoc])
      clear hb4 HX HW f3 fz cn2 cn3 z2 z3
      go_wp2_with fail
      exact ⟨⟨i + 1, _, by omega, by rfl, rfl, X4, W4, AE⟩, by simp [Go.RowKit.intOf]; omega⟩
    · have hi' : i = n2.length := by omega
      subst hi'
      have f1 := (unhide HX).at (o := 1) (v := .string n1) rfl
      have fz := (unhide HX).lt
      have HA1 := hide (show o.data.toList = [60] ++ n0.data.toList ++ attrs ⟨n0, n1, n2, n3, (ks.length : Int)⟩ from by rw [unhide HA, zip_full n2 n3 (unhide HN3)]; rfl)
      clear HA
      go_wp2_with fail
      refine (esc_e n1 _ L1).mono ?_
      rintro e w4 ⟨⟨S, rfl, hS, hSl⟩, hb4⟩
      have X4 := hide ((unhide HX).keep hb4)
      have W4 := hide (bTr (unhide HW) hb4)
      have AE := hide (show (o ++ (⟨#[62]⟩ ++ S) : ByteArray).data.toList = hdx ⟨n0, n1, n2, n3, (ks.length : Int)⟩ from by
        rw [bapp, unhide HA1]
        simp only [bapp, unhide hS, hdx])
      clear hb4 HX HW f1 fz
      have f6 := (unhide X4).at (o := 6) (v := .slice a ks.length cap) rfl
      have fz := (unhide X4).lt
      go_wp2_with fail
      go_loopw [3, 46] (fun u q w' => ∃ (i : Nat) (o : ByteArray), i ≤ ks.length ∧ q = .int .i64 i ∧ u = .string o ∧ Hid (RowIs w' w.heap.size #[.string n0, .string n1, .slice a2 n2.length p2, .slice a3 n3.length p3, .int .i64 (ks.length : Int), .int .i64 (j : Int), .slice a ks.length cap] 38) ∧ Hid (Below w.heap.size w w') ∧ Hid (o.data.toList = hdx ⟨n0, n1, n2, n3, (ks.length : Int)⟩ ++ (ks.take i).flatMap DT.tx)) (fun _ q _ => ks.length - (Go.RowKit.intOf q).toNat)
      case atStart => exact ⟨0, _, Nat.zero_le _, rfl, rfl, X4, W4, hide (by simpa using unhide AE)⟩
      case round =>
        obtain ⟨i, o, hi, rfl, rfl, HX, HW, HA⟩ := hrel
        clear X4 W4 AE f6 fz hol HA1 hS hSl
        have hsum : (hdx ⟨n0, n1, n2, n3, (ks.length : Int)⟩).length + (ks.flatMap DT.tx).length + (endx ⟨n0, n1, n2, n3, (ks.length : Int)⟩).length ≤ 720000 := by
          have := unhide HLEN
          simpa only [List.length_append] using this
        have hpre : ks.flatMap DT.tx = (ks.take i).flatMap DT.tx ++ (ks.drop i).flatMap DT.tx := by
          rw [← List.flatMap_append, List.take_append_drop]
        have hol : o.size + (endx ⟨n0, n1, n2, n3, (ks.length : Int)⟩).length ≤ 720000 := by
          rw [Lib.size_eq, unhide HA]
          rw [hpre] at hsum
          simp only [List.length_append] at hsum ⊢
          omega
        by_cases hlt : i < ks.length
        · have hkt : ks.take (i + 1) = ks.take i ++ [ks[i]] := by rw [List.take_succ_eq_append_getElem hlt]
          have hkd : ks.drop i = ks[i] :: ks.drop (i + 1) := List.drop_eq_getElem_cons hlt
          rcases unhide HBK with hz | ⟨bk, rfl, hlo, hbz, hat⟩
          · rw [hz] at hlt; simp at hlt
          obtain ⟨s', h7, htr⟩ := hat i hlt
          obtain ⟨sa, sn, sc, rfl⟩ : ∃ a n c, s' = .slice a n c := by
            cases r with
            | zero => exact htr.elim
            | succ r => obtain ⟨_, _, a, cap, rfl, _⟩ := htr; exact ⟨_, _, _, rfl⟩
          have hall := unhide HKS _ (List.getElem_mem hlt)
          obtain ⟨t1, ht1⟩ : ∃ t, ks[i] = t := ⟨_, rfl⟩
          rw [ht1] at hkt hkd h7 htr hall
          rw [hpre, hkd, List.flatMap_cons] at hsum
          simp only [List.length_append] at hsum
          have h7' := h7.keptD (lo := 0) ⟨(unhide HW).size, fun c _ h => (unhide HW).block c h⟩ (Nat.zero_le _) hbz
          replace h7' : At7 wr bk (i * 7) t1.n t1.at (.slice sa sn sc) := h7'
          have hbz' : bk < wr.heap.size := Nat.lt_of_lt_of_le hbz (unhide HW).size
          have HT1 := hide (fun (o : Obj) => htr.keptD (w' := wr.alloc o) ⟨(bAl (unhide HW) o).size, fun c _ h => (bAl (unhide HW) o).block c h⟩)
          have HT2 := hide (fun (o : Obj) => AllD.keep (bAl (unhide HW) o) hall)
          have hS1 : t1.tx.length ≤ 720000 := by omega
          obtain ⟨k1, hk1⟩ : ∃ k, t1.at = k := ⟨_, rfl⟩
          obtain ⟨⟨⟨m0, m1, m2, m3, m4⟩, ⟨b2, s2, q2⟩, ⟨b3, s3, q3⟩⟩, hx1⟩ : ∃ x, t1.n = x := ⟨_, rfl⟩
          rw [hx1, hk1] at h7'
          obtain ⟨c0, c1, c2, c3, c4, c5, c6⟩ := h7'
          simp only at c0 c1 c2 c3 c4 c5 c6
          have q := hide (fun (o : Obj) => IH t1 (.slice sa sn sc) (wr.alloc o) (unhide HT1 o) (unhide HT2 o) hS1)
          rw [hx1, hk1] at q
          simp only [agg7] at q
          obtain ⟨S, hS⟩ : ∃ S : ByteArray, ⟨t1.tx.toArray⟩ = S := ⟨_, rfl⟩
          rw [hS] at q
          have HSd := hide (show S.data.toList = t1.tx by rw [← hS])
          have hSl : S.size ≤ 720000 := by rw [Lib.size_eq, unhide HSd]; exact hS1
          have AE := hide (show (o ++ S : ByteArray).data.toList = hdx ⟨n0, n1, n2, n3, (ks.length : Int)⟩ ++ (ks.take (i + 1)).flatMap DT.tx from by
            rw [bapp, unhide HA, unhide HSd, hkt, List.flatMap_append]; simp)
          clear hS hkt hkd h7 htr hall ht1 hsum hpre hk1 hx1
          go_wp2_with fail
          refine (unhide q _).mono ?_
          rintro e w5 ⟨rfl, hb5⟩
          have X5 := hide (((unhide HX).keep (bAl (Below.refl _ _) _)).keep hb5)
          have W5 := hide (bTr (bAl (unhide HW) _) hb5)
          clear hb5 HX HW
          go_wp2_with fail
          exact ⟨⟨i + 1, _, by omega, by rfl, rfl, X5, W5, AE⟩, by simp [Go.RowKit.intOf]; omega⟩
        · have hi' : i = ks.length := by omega
          subst hi'
          have f0 := (unhide HX).at (o := 0) (v := .string n0) rfl
          have fz := (unhide HX).lt
          have hol2 : o.size ≤ 720000 := by omega
          clear hpre
          go_wp2_with fail
          go_ret
          refine ⟨congrArg (fun x => Ending.returned (Value.string x)) (beq_of ?_), unhide HW⟩
          simp only [bapp, unhide HA, List.take_length, endx, List.append_assoc]
theorem text_any : ∀ (r lo : Nat), TxS r lo
  | 0, lo => fun t s w h => h.elim
  | r + 1, lo => text_step r lo (text_any r lo)
set_option maxRecDepth 100000 in
theorem bound_any (s : ByteArray) (w : World) (hs : s.size ≤ 720000) :
    Calls Tryd.prog 14 #[.string s] w fun e w' => e = .returned (.string ⟨(bnd s.data.toList).toArray⟩) ∧ w' = w := by
  have he : s = ⟨s.data.toList.toArray⟩ := beq_of rfl
  by_cases h : 8000 < s.size
  · have hb := hide (show bnd s.data.toList = [] by unfold bnd; rw [if_pos (by rw [← Lib.size_eq]; exact h)])
    have h1 : (8000 : Int) < (s.size : Int) := by omega
    clear he
    go_enter Tryd.func14, Tryd.ntmps14
    go_wp2_with fail
    go_ret
    exact ⟨by rw [unhide hb]; rfl, rfl⟩
  · have hb := hide (show bnd s.data.toList = s.data.toList by unfold bnd; rw [if_neg (by rw [← Lib.size_eq]; exact h)])
    have h1 : ¬ (8000 : Int) < (s.size : Int) := by omega
    clear he
    go_enter Tryd.func14, Tryd.ntmps14
    go_wp2_with fail
    go_ret
    exact ⟨congrArg (fun x => Ending.returned (Value.string x)) (beq_of (unhide hb).symm), rfl⟩
end Go.Proofs.YtdhpfhpegaekpaaDoor.V
