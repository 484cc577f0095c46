/- impl.elemText. -/
import Derived.Test.YtdhpfhpegaekpaaDoorEMb
namespace Go.Proofs.YtdhpfhpegaekpaaDoor.V
set_option linter.unusedSimpArgs false
set_option linter.unusedVariables false
open Go.RowKit

structure RowD (w : World) (b off cap : Nat) (l : List ElemE) : Prop where
  row : ElemRow w b off l
  m : ∀ e ∈ l, ElemM w 0 e
  c : l.length ≤ cap
theorem RowD.keep {w w' : World} {b off cap : Nat} {l : List ElemE} (h : RowD w b off cap l) (hb : Below w.heap.size w w') : RowD w' b off cap l :=
  ⟨h.row.fr (Fr.below hb 0) (Nat.zero_le _), fun e he => (h.m e he).keep hb, h.c⟩
/-- What is left of the elements from the place k on. -/
def SlD (b off cap : Nat) (l : List ElemE) (k : Nat) (v : Value) : Prop := ∃ o, v = .slice (some ⟨b, o, none⟩) (l.length - k) (cap - k) ∧ (k < l.length → o = off + k * 5)
theorem wrc (acc : List UInt8) (s : ByteArray) : Lib.byteCells acc ++ Lib.strCells s = Lib.byteCells (acc ++ s.data.toList) := by
  rw [Lib.strCells_eq, ← Lib.byteCells_append]
theorem bldDr {T e B b : Nat} {bs : List Value} {w : World} (h : Lib.IsBuilderF T e B b bs w) : Lib.IsBuilderF T e B b bs w.drew := h
theorem row_low {w w' : World} {B b : Nat} {C : Array Value} {T : TypeId} (h : RowIs w b C T) (hb : Below B w w') (hB : b < B) : RowIs w' b C T := (hb.block b hB).trans h
theorem marked_e (s : ByteArray) (w : World) (hs : s.size ≤ 200) (hm : MarksAt w) :
    Calls Tryd.prog 38 #[.string s] w fun e w' => (∃ S : ByteArray, e = .returned (.string S) ∧ Hid (S.data.toList = ex s.data.toList) ∧ S.size ≤ 1200) ∧ Below w.heap.size w w' :=
  (marked_any s w hs hm).mono fun e w' h => ⟨⟨_, h.1, hide rfl, by
    have := ex_len s.data.toList
    rw [Lib.size_eq] at hs ⊢
    simp only
    omega⟩, h.2⟩
def Txt (r : Nat) (l : List ElemE) (b off cap : Nat) : Prop := ∀ (k k' : Nat) (t : DT) (v : Value) (w : World), takeD l r k = some (t, k') → SlD b off cap l k v → RowD w b off cap l → MarksAt w →
      Calls Tryd.prog 29 #[v] w fun e w' => (∃ v', e = .returned (.tuple #[.string ⟨(dtx r t).toArray⟩, v']) ∧ SlD b off cap l k' v') ∧ Below w.heap.size w w'

set_option maxRecDepth 100000 in
set_option maxHeartbeats 16000000 in
theorem elemText_step (r : Nat) (l : List ElemE) (b off cap : Nat) (hr : ∀ x ∈ l, RightE x.t) (hl : l.length ≤ 60) (IH : Txt r l b off cap) : Txt (r + 1) l b off cap := by
  intro k k' t v w ht hv hd hm
  have hlen := (dtx_len hr _ _ _ _ ht).2.2
  have hk60 : k' - k ≤ 60 := by have := (dtx_len hr _ _ _ _ ht).2.1; omega
  obtain ⟨hk, n, ks, h4, hn20, hks, rfl⟩ := take_inv ht
  obtain ⟨O, rfl, hO0⟩ := hv
  have hO := (hO0 hk).symm
  clear hO0
  have c0 := hd.row.c0 k hk
  have c1 := hd.row.c1 k hk
  have c2 := hd.row.c2 k hk
  have c3 := hd.row.c3 k hk
  have c4 := hd.row.c4 k hk
  have hz := hd.row.z
  have hme := hd.m _ (List.getElem_mem hk)
  have hre := hr _ (List.getElem_mem hk)
  have hcap := hd.c
  obtain ⟨N, hN⟩ : ∃ N, l.length - k = N := ⟨_, rfl⟩
  obtain ⟨C, hC⟩ : ∃ C, cap - k = C := ⟨_, rfl⟩
  rw [hO] at c0 c1 c2 c3 c4
  rw [hN, hC]
  have e1 : (0 : Int) < (N : Int) := by omega
  have e2 : (1 : Int) ≤ (N : Int) := by omega
  have e3 : (N : Int) ≤ (C : Int) := by omega
  obtain ⟨⟨⟨n0, n1, n2, n3, n4⟩, ⟨a2, s2, p2⟩, ⟨a3, s3, p3⟩⟩, hx⟩ : ∃ x, l[k] = x := ⟨_, rfl⟩
  rw [hx] at c0 c1 c2 c3 c4 h4 hme hre hlen ⊢
  simp only at c0 c1 c2 c3 c4 h4
  subst h4
  have sv1 : SlD b off cap l (k + 1) (.slice (some ⟨b, O + 5, none⟩) (N - 1) (C - 1)) := ⟨O + 5, by rw [← hN, ← hC]; congr 1 <;> omega, fun _ => by omega⟩
  have sv2 : C = 1 → SlD b off cap l (k + 1) (.slice (some ⟨b, O, none⟩) 0 0) := fun h => ⟨O, by congr 1 <;> omega, fun _ => by omega⟩
  have SV1 := hide sv1
  have SV2 := hide sv2
  have L0 := gnm_len hre.nm
  have L1 := gtx_len hre.tx
  have hn8 : n2.length ≤ 8 := hre.n8
  have HN3 := hide (show n3.length = n2.length from hre.vl)
  have s2l : s2 = n2.length := hme.m2.1
  have s3l : s3 = n3.length := hme.m3.1
  subst s2l s3l
  have GN := hide (show ∀ q ∈ n2, ByteArray.size q ≤ 30 from fun q hq => gnm_len (hre.nn q hq))
  have GV := hide (show ∀ q ∈ n3, ByteArray.size q ≤ 200 from fun q hq => gtx_len (hre.vv q hq))
  have HAT := hide (show (attrs ⟨n0, n1, n2, n3, (n : Int)⟩).length ≤ 10400 from attrs_len hre)
  have M2 := hide hme.m2
  have M3 := hide hme.m3
  have HLEN := hide hlen
  have HKS := hide hks
  have HD := hide hd
  have HM := hide hm
  have HH := hide hr
  clear hO hme hre hlen hks hd hm hcap hx sv1 sv2 ht
  have al : ∀ o v, w.cell? ⟨b, o, none⟩ = some v → (w.alloc (Obj.cells #[.string ⟨#[]⟩, .string ⟨#[]⟩, .slice none 0 0, .slice none 0 0, .int .i64 0] 35)).cell? ⟨b, o, none⟩ = some v := fun o v h => by
    rw [(bAl (Below.refl _ _) _ : Below w.heap.size w _).cell (p := ⟨b, o, none⟩) hz]; exact h
  have d0 := al _ _ c0
  have d1 := al _ _ c1
  have d2 := al _ _ c2
  have d3 := al _ _ c3
  have d4 := al _ _ c4
  clear al
  obtain ⟨E5, hE5⟩ : ∃ E : Array Value, #[.string n0, .string n1, .slice a2 n2.length p2, .slice a3 n3.length p3, .int .i64 (n : Int)] = E := ⟨_, rfl⟩
  have HX0 := hide (show RowIs ((w.alloc (.cells E5 35)).alloc (.cells #[.pointer none, .slice none 0 0] 71)).drew w.heap.size E5 35 from (RowIs.new w E5 35).keep ((bAl (Below.refl _ _) _).drew))
  have HB0 := hide (show Lib.IsBuilderF 71 5 (w.heap.size + 1) (w.heap.size + 1) (Lib.byteCells []) ((w.alloc (.cells E5 35)).alloc (.cells #[.pointer none, .slice none 0 0] 71)) from by simpa using bldNew (w.alloc (.cells E5 35)))
  have HW0 := hide (show Below w.heap.size w ((w.alloc (.cells E5 35)).alloc (.cells #[.pointer none, .slice none 0 0] 71)).drew from (bAl (bAl (Below.refl _ _) _) _).drew)
  have z0 : w.heap.size + 1 ≤ ((w.alloc (.cells E5 35)).alloc (.cells #[.pointer none, .slice none 0 0] 71)).drew.heap.size := by simp
  have Z0 := hide z0
  clear z0
  subst hE5
  go_enter Tryd.func29, Tryd.ntmps29
  go_wp2_with fail
  by_cases hC1 : C = 1
  · have hN1 : N = 1 := by omega
    have S := unhide SV2 hC1
    clear SV1 SV2
    subst hC1
    obtain ⟨vv, hvv⟩ : ∃ u, Value.slice (some ⟨b, O, none⟩) 0 0 = u := ⟨_, rfl⟩
    rw [hvv] at S
    go_region
    all_goals (
      try rw [hvv]
      have hsv := S
      have R0 := hide hsv
      clear hsv
      go_wp2_with fail
      refine (bld_write (w.heap.size + 1) (w.heap.size + 1) _ _ _ (bldDr (unhide HB0)) (by rw [Lib.byteCells_length, ByteArray.size_append]; have : (⟨#[60]⟩ : ByteArray).size = 1 := rfl; simp only [List.length_nil]; omega) (unhide Z0)).mono ?_
      rintro e w3 ⟨rfl, h3, hb3⟩
      rw [wrc] at h3
      have B3 := hide h3
      have W3 := hide ((unhide HW0).trans (hb3.mono (Nat.le_succ _)))
      have X3 := hide (row_low (B := w.heap.size + 1) (unhide HX0) hb3 (Nat.lt_succ_self _))
      have Z3 := hide (Nat.le_trans (unhide Z0) hb3.size)
      clear h3 hb3 HX0 HB0 HW0 Z0
      have f2 := (unhide X3).at (o := 2) (v := .slice a2 n2.length p2) rfl
      have fz := (unhide X3).lt
      go_wp2_with fail
      go_loopw [23] (fun q w' => ∃ (i : Nat) (A : List UInt8), i ≤ n2.length ∧ q = .int .i64 i ∧ Hid (Lib.IsBuilderF 71 5 (w.heap.size + 1) (w.heap.size + 1) (Lib.byteCells A) w') ∧ Hid (RowIs w' w.heap.size #[.string n0, .string n1, .slice a2 n2.length p2, .slice a3 n3.length p3, .int .i64 (n : Int)] 35) ∧ Hid (Below w.heap.size w w') ∧ Hid (w.heap.size + 1 ≤ w'.heap.size) ∧ Hid (A = [60] ++ n0.data.toList ++ ((n2.zip n3).take i).flatMap attr)) (fun q _ => n2.length - (Go.RowKit.intOf q).toNat)
      case atStart => exact ⟨0, _, Nat.zero_le _, rfl, B3, X3, W3, Z3, hide (by rw [bapp]; simp)⟩
      case round =>
        obtain ⟨i, A, hi, rfl, HB, HX, HW, HZ, HA⟩ := hrel
        clear B3 X3 W3 Z3 f2 fz
        have hAl : A.length ≤ 20000 := by
          rw [unhide HA]
          have q := flat_len attr 1300 ((n2.zip n3).take i) (fun p hp => by
            have hz := List.of_mem_zip (List.mem_of_mem_take hp)
            have := unhide GN _ hz.1
            have := unhide GV _ hz.2
            have := ex_len p.2.data.toList
            have g1 := Lib.size_eq p.1
            have g2 := Lib.size_eq p.2
            simp only [attr, List.length_append, List.length_cons, List.length_nil]
            omega)
          have q2 : ((n2.zip n3).take i).length ≤ 8 := by rw [List.length_take, List.length_zip]; omega
          have := Nat.mul_le_mul_right 1300 q2
          have := Lib.size_eq n0
          simp only [List.length_append, List.length_cons, List.length_nil]
          omega
        by_cases hlt : i < n2.length
        · obtain ⟨b2, o2, rfl, r2⟩ := ((unhide M2).keep (unhide HW)).sl.at hlt
          have k3 : i < n3.length := by rw [unhide HN3]; exact hlt
          obtain ⟨b3, o3, rfl, r3⟩ := ((unhide M3).keep (unhide HW)).sl.at k3
          have cn2 : wr.cell? ⟨b2, o2 + i, none⟩ = some (.string n2[i]) := r2.c i hlt
          have cn3 : wr.cell? ⟨b3, o3 + i, none⟩ = some (.string n3[i]) := r3.c i k3
          have z2 := r2.z
          have z3 := r3.z
          have y2 := unhide GN _ (List.getElem_mem hlt)
          have y3 := unhide GV _ (List.getElem_mem k3)
          have ZT := hide (zip_take n2 n3 i hlt k3)
          clear r2 r3
          obtain ⟨Nm, hNm⟩ : ∃ A, n2[i] = A := ⟨_, rfl⟩
          obtain ⟨V, hV⟩ : ∃ V, n3[i] = V := ⟨_, rfl⟩
          rw [hNm, hV] at ZT
          rw [hNm] at cn2 y2
          rw [hV] at cn3 y3
          clear hNm hV
          have f3 := (unhide HX).at (o := 3) (v := .slice (some ⟨b3, o3, none⟩) n3.length p3) rfl
          have fz := (unhide HX).lt
          have hm' := hide ((unhide HM).keep (unhide HW))
          go_wp2_with fail
          refine (marked_e V _ y3 (unhide hm')).mono ?_
          rintro e w4 ⟨⟨S, rfl, hS, hSl⟩, hb4⟩
          have B4 := hide (bld_keep (unhide HB) hb4)
          have X4 := hide ((unhide HX).keep hb4)
          have W4 := hide (bTr (unhide HW) hb4)
          have Z4 := hide (Nat.le_trans (unhide HZ) hb4.size)
          clear hb4 HB HX HW HZ hm' f3 fz cn2 cn3 z2 z3
          go_wp2_with fail
          refine (bld_write (w.heap.size + 1) (w.heap.size + 1) _ _ _ (unhide B4) (by rw [Lib.byteCells_length]; simp only [ByteArray.size_append]; have t1 : (⟨#[32]⟩ : ByteArray).size = 1 := rfl; have t2 : (⟨#[61, 34]⟩ : ByteArray).size = 2 := rfl; have t3 : (⟨#[34]⟩ : ByteArray).size = 1 := rfl; omega) (unhide Z4)).mono ?_
          rintro e w5 ⟨rfl, h5, hb5⟩
          rw [wrc] at h5
          have B5 := hide h5
          have X5 := hide (row_low (B := w.heap.size + 1) (unhide X4) hb5 (Nat.lt_succ_self _))
          have W5 := hide ((unhide W4).trans (hb5.mono (Nat.le_succ _)))
          have Z5 := hide (Nat.le_trans (unhide Z4) hb5.size)
          have AE := hide (show A ++ (⟨#[32]⟩ ++ Nm ++ ⟨#[61, 34]⟩ ++ S ++ ⟨#[34]⟩ : ByteArray).data.toList = [60] ++ n0.data.toList ++ ((n2.zip n3).take (i + 1)).flatMap attr from by
            rw [unhide ZT, List.flatMap_append, unhide HA]
            simp only [bapp, unhide hS, attr, List.flatMap_cons, List.flatMap_nil, List.append_nil, List.append_assoc])
          clear h5 hb5 B4 X4 W4 Z4
          go_wp2_with fail
          exact ⟨⟨i + 1, _, by omega, by rfl, B5, X5, W5, Z5, AE⟩, by simp [Go.RowKit.intOf]; omega⟩
        · have hi' : i = n2.length := by omega
          subst hi'
          have f1 := (unhide HX).at (o := 1) (v := .string n1) rfl
          have fz := (unhide HX).lt
          have hm' := hide ((unhide HM).keep (unhide HW))
          have HA1 := hide (show A = [60] ++ n0.data.toList ++ attrs ⟨n0, n1, n2, n3, (n : Int)⟩ from by rw [unhide HA, zip_full n2 n3 (unhide HN3)]; rfl)
          clear HA
          go_wp2_with fail
          refine (marked_e n1 _ L1 (unhide hm')).mono ?_
          rintro e w4 ⟨⟨S, rfl, hS, hSl⟩, hb4⟩
          have B4 := hide (bld_keep (unhide HB) hb4)
          have X4 := hide ((unhide HX).keep hb4)
          have W4 := hide (bTr (unhide HW) hb4)
          have Z4 := hide (Nat.le_trans (unhide HZ) hb4.size)
          clear hb4 HB HX HW HZ hm' f1 fz
          go_wp2_with fail
          refine (bld_write (w.heap.size + 1) (w.heap.size + 1) _ _ _ (unhide B4) (by rw [Lib.byteCells_length]; simp only [ByteArray.size_append]; have t1 : (⟨#[62]⟩ : ByteArray).size = 1 := rfl; omega) (unhide Z4)).mono ?_
          rintro e w5 ⟨rfl, h5, hb5⟩
          rw [wrc] at h5
          have AE : A ++ (⟨#[62]⟩ ++ S : ByteArray).data.toList = hdx ⟨n0, n1, n2, n3, (n : Int)⟩ := by
            rw [unhide HA1]
            simp only [bapp, unhide hS, hdx]
          rw [AE] at h5
          have B5 := hide h5
          have X5 := hide (row_low (B := w.heap.size + 1) (unhide X4) hb5 (Nat.lt_succ_self _))
          have W5 := hide ((unhide W4).trans (hb5.mono (Nat.le_succ _)))
          have Z5 := hide (Nat.le_trans (unhide Z4) hb5.size)
          clear h5 hb5 B4 X4 W4 Z4 AE HA1 hS hSl hAl
          have f4 := (unhide X5).at (o := 4) (v := .int .i64 (n : Int)) rfl
          have fz := (unhide X5).lt
          go_wp2_with fail
          go_loopw [5, 48] (fun u q w' => ∃ (i kk : Nat) (pre : List DT), q = .int .i64 i ∧ i ≤ n ∧ Hid (KidsD (takeD l r) n (k + 1) i pre kk) ∧ Hid (SlD b off cap l kk u) ∧ Hid (Lib.IsBuilderF 71 5 (w.heap.size + 1) (w.heap.size + 1) (Lib.byteCells (hdx ⟨n0, n1, n2, n3, (n : Int)⟩ ++ pre.flatMap (dtx r))) w') ∧ Hid (RowIs w' w.heap.size #[.string n0, .string n1, .slice a2 n2.length p2, .slice a3 n3.length p3, .int .i64 (n : Int)] 35) ∧ Hid (Below w.heap.size w w') ∧ Hid (w.heap.size + 1 ≤ w'.heap.size)) (fun _ q _ => n - (Go.RowKit.intOf q).toNat)
          case atStart => exact ⟨0, k + 1, [], rfl, Nat.zero_le _, hide (KidsD.start _ _ _), R0, hide (by simpa using unhide B5), X5, W5, Z5⟩
          case round =>
            obtain ⟨i, kk, pre, rfl, hi, HK, HS, HB, HX, HW, HZ⟩ := hrel
            clear B5 X5 W5 Z5 f4 fz R0
            obtain ⟨us, hus, hpre⟩ := kids_pre (unhide HK) (unhide HKS)
            have hAl : (hdx ⟨n0, n1, n2, n3, (n : Int)⟩ ++ pre.flatMap (dtx r)).length + (endx ⟨n0, n1, n2, n3, (n : Int)⟩).length ≤ 720000 := by
              have := unhide HLEN
              simp only [dtx, DT.n, DT.kids, hpre, List.flatMap_append, List.length_append] at this
              simp only [List.length_append]
              omega
            by_cases hlt : i < n
            · obtain ⟨t1, k1, ht1⟩ := kids_next (unhide HK) (unhide HKS) hlt
              have q1 := dtx_len (unhide HH) _ _ _ _ ht1
              have hS1 : (dtx r t1).length ≤ 720000 := by omega
              have qc := hide (IH kk k1 t1 _ wr ht1 (unhide HS) ((unhide HD).keep (unhide HW)) ((unhide HM).keep (unhide HW)))
              have HK1 := hide ((unhide HK).step hlt ht1)
              obtain ⟨o1, hu, _⟩ := unhide HS
              subst hu
              obtain ⟨S, hS⟩ : ∃ S : ByteArray, ⟨(dtx r t1).toArray⟩ = S := ⟨_, rfl⟩
              rw [hS] at qc
              have HSd := hide (show S.data.toList = dtx r t1 by rw [← hS])
              have hSl : S.size ≤ 720000 := by rw [Lib.size_eq, unhide HSd]; exact hS1
              clear hS q1 ht1 hus hpre
              go_wp2_with fail
              refine (unhide qc).mono ?_
              rintro e w4 ⟨⟨v', rfl, hv'⟩, hb4⟩
              have HV := hide hv'
              have B4 := hide (bld_keep (unhide HB) hb4)
              have X4 := hide ((unhide HX).keep hb4)
              have W4 := hide (bTr (unhide HW) hb4)
              have Z4 := hide (Nat.le_trans (unhide HZ) hb4.size)
              clear hb4 HB HX HW HZ qc hv' HS
              go_wp2_with fail
              refine (bld_write (w.heap.size + 1) (w.heap.size + 1) _ _ _ (unhide B4) (by rw [Lib.byteCells_length]; omega) (unhide Z4)).mono ?_
              rintro e w5 ⟨rfl, h5, hb5⟩
              rw [wrc] at h5
              have AE : (hdx ⟨n0, n1, n2, n3, (n : Int)⟩ ++ pre.flatMap (dtx r)) ++ S.data.toList = hdx ⟨n0, n1, n2, n3, (n : Int)⟩ ++ (pre ++ [t1]).flatMap (dtx r) := by
                rw [unhide HSd]; simp
              rw [AE] at h5
              have B5 := hide h5
              have X5 := hide (row_low (B := w.heap.size + 1) (unhide X4) hb5 (Nat.lt_succ_self _))
              have W5 := hide ((unhide W4).trans (hb5.mono (Nat.le_succ _)))
              have Z5 := hide (Nat.le_trans (unhide Z4) hb5.size)
              clear h5 hb5 B4 X4 W4 Z4 AE
              go_wp2_with fail
              exact ⟨⟨i + 1, k1, pre ++ [t1], by rfl, by omega, HK1, HV, B5, X5, W5, Z5⟩, by simp [Go.RowKit.intOf]; omega⟩
            · have hi' : i = n := by omega
              subst hi'
              have hdone := (unhide HK).done
              rw [unhide HKS] at hdone
              obtain ⟨rfl, rfl⟩ : ks = pre ∧ k' = kk := by simpa using hdone
              have f0 := (unhide HX).at (o := 0) (v := .string n0) rfl
              have fz := (unhide HX).lt
              clear hus hpre hdone
              obtain ⟨o1, hu, _⟩ := unhide HS
              subst hu
              go_wp2_with fail
              refine (bld_write (w.heap.size + 1) (w.heap.size + 1) _ _ _ (unhide HB) (by rw [Lib.byteCells_length]; simp only [ByteArray.size_append, List.length_append] at hAl ⊢; have t1 : (⟨#[60, 47]⟩ : ByteArray).size = 2 := rfl; have t2 : (⟨#[62]⟩ : ByteArray).size = 1 := rfl; omega) (unhide HZ)).mono ?_
              rintro e w5 ⟨rfl, h5, hb5⟩
              rw [wrc] at h5
              have AE : (hdx ⟨n0, n1, n2, n3, (i : Int)⟩ ++ ks.flatMap (dtx r)) ++ (⟨#[60, 47]⟩ ++ n0 ++ ⟨#[62]⟩ : ByteArray).data.toList = dtx (r + 1) (.node ⟨⟨n0, n1, n2, n3, (i : Int)⟩, ⟨a2, n2.length, p2⟩, ⟨a3, n3.length, p3⟩⟩ k ks) := by
                simp only [bapp, dtx, DT.n, DT.kids, endx]
              rw [AE] at h5
              have B5 := hide h5
              have W5 := hide ((unhide HW).trans (hb5.mono (Nat.le_succ _)))
              have Z5 := hide (Nat.le_trans (unhide HZ) hb5.size)
              clear h5 hb5 HB HX HW HZ AE f0 fz
              go_wp2_with fail
              refine (Tryd.Builder_String_any_f (w.heap.size + 1) (w.heap.size + 1) _ w5 (unhide B5) (unhide Z5)).mono ?_
              rintro e w6 ⟨rfl, hb6⟩
              go_wp2_with fail
              go_ret2
              exact ⟨⟨_, rfl, unhide HS⟩, (unhide W5).trans (hb6.2.mono (Nat.le_succ _))⟩
    )
  · have S := unhide SV1
    clear SV1 SV2
    obtain ⟨vv, hvv⟩ : ∃ u, Value.slice (some ⟨b, O + 5, none⟩) (N - 1) (C - 1) = u := ⟨_, rfl⟩
    rw [hvv] at S
    go_region
    all_goals (
      try rw [hvv]
      have hsv := S
      have R0 := hide hsv
      clear hsv
      go_wp2_with fail
      refine (bld_write (w.heap.size + 1) (w.heap.size + 1) _ _ _ (bldDr (unhide HB0)) (by rw [Lib.byteCells_length, ByteArray.size_append]; have : (⟨#[60]⟩ : ByteArray).size = 1 := rfl; simp only [List.length_nil]; omega) (unhide Z0)).mono ?_
      rintro e w3 ⟨rfl, h3, hb3⟩
      rw [wrc] at h3
      have B3 := hide h3
      have W3 := hide ((unhide HW0).trans (hb3.mono (Nat.le_succ _)))
      have X3 := hide (row_low (B := w.heap.size + 1) (unhide HX0) hb3 (Nat.lt_succ_self _))
      have Z3 := hide (Nat.le_trans (unhide Z0) hb3.size)
      clear h3 hb3 HX0 HB0 HW0 Z0
      have f2 := (unhide X3).at (o := 2) (v := .slice a2 n2.length p2) rfl
      have fz := (unhide X3).lt
      go_wp2_with fail
      go_loopw [23] (fun q w' => ∃ (i : Nat) (A : List UInt8), i ≤ n2.length ∧ q = .int .i64 i ∧ Hid (Lib.IsBuilderF 71 5 (w.heap.size + 1) (w.heap.size + 1) (Lib.byteCells A) w') ∧ Hid (RowIs w' w.heap.size #[.string n0, .string n1, .slice a2 n2.length p2, .slice a3 n3.length p3, .int .i64 (n : Int)] 35) ∧ Hid (Below w.heap.size w w') ∧ Hid (w.heap.size + 1 ≤ w'.heap.size) ∧ Hid (A = [60] ++ n0.data.toList ++ ((n2.zip n3).take i).flatMap attr)) (fun q _ => n2.length - (Go.RowKit.intOf q).toNat)
      case atStart => exact ⟨0, _, Nat.zero_le _, rfl, B3, X3, W3, Z3, hide (by rw [bapp]; simp)⟩
      case round =>
        obtain ⟨i, A, hi, rfl, HB, HX, HW, HZ, HA⟩ := hrel
        clear B3 X3 W3 Z3 f2 fz
        have hAl : A.length ≤ 20000 := by
          rw [unhide HA]
          have q := flat_len attr 1300 ((n2.zip n3).take i) (fun p hp => by
            have hz := List.of_mem_zip (List.mem_of_mem_take hp)
            have := unhide GN _ hz.1
            have := unhide GV _ hz.2
            have := ex_len p.2.data.toList
            have g1 := Lib.size_eq p.1
            have g2 := Lib.size_eq p.2
            simp only [attr, List.length_append, List.length_cons, List.length_nil]
            omega)
          have q2 : ((n2.zip n3).take i).length ≤ 8 := by rw [List.length_take, List.length_zip]; omega
          have := Nat.mul_le_mul_right 1300 q2
          have := Lib.size_eq n0
          simp only [List.length_append, List.length_cons, List.length_nil]
          omega
        by_cases hlt : i < n2.length
        · obtain ⟨b2, o2, rfl, r2⟩ := ((unhide M2).keep (unhide HW)).sl.at hlt
          have k3 : i < n3.length := by rw [unhide HN3]; exact hlt
          obtain ⟨b3, o3, rfl, r3⟩ := ((unhide M3).keep (unhide HW)).sl.at k3
          have cn2 : wr.cell? ⟨b2, o2 + i, none⟩ = some (.string n2[i]) := r2.c i hlt
          have cn3 : wr.cell? ⟨b3, o3 + i, none⟩ = some (.string n3[i]) := r3.c i k3
          have z2 := r2.z
          have z3 := r3.z
          have y2 := unhide GN _ (List.getElem_mem hlt)
          have y3 := unhide GV _ (List.getElem_mem k3)
          have ZT := hide (zip_take n2 n3 i hlt k3)
          clear r2 r3
          obtain ⟨Nm, hNm⟩ : ∃ A, n2[i] = A := ⟨_, rfl⟩
          obtain ⟨V, hV⟩ : ∃ V, n3[i] = V := ⟨_, rfl⟩
          rw [hNm, hV] at ZT
          rw [hNm] at cn2 y2
          rw [hV] at cn3 y3
          clear hNm hV
          have f3 := (unhide HX).at (o := 3) (v := .slice (some ⟨b3, o3, none⟩) n3.length p3) rfl
          have fz := (unhide HX).lt
          have hm' := hide ((unhide HM).keep (unhide HW))
          go_wp2_with fail
          refine (marked_e V _ y3 (unhide hm')).mono ?_
          rintro e w4 ⟨⟨S, rfl, hS, hSl⟩, hb4⟩
          have B4 := hide (bld_keep (unhide HB) hb4)
          have X4 := hide ((unhide HX).keep hb4)
          have W4 := hide (bTr (unhide HW) hb4)
          have Z4 := hide (Nat.le_trans (unhide HZ) hb4.size)
          clear hb4 HB HX HW HZ hm' f3 fz cn2 cn3 z2 z3
          go_wp2_with fail
          refine (bld_write (w.heap.size + 1) (w.heap.size + 1) _ _ _ (unhide B4) (by rw [Lib.byteCells_length]; simp only [ByteArray.size_append]; have t1 : (⟨#[32]⟩ : ByteArray).size = 1 := rfl; have t2 : (⟨#[61, 34]⟩ : ByteArray).size = 2 := rfl; have t3 : (⟨#[34]⟩ : ByteArray).size = 1 := rfl; omega) (unhide Z4)).mono ?_
          rintro e w5 ⟨rfl, h5, hb5⟩
          rw [wrc] at h5
          have B5 := hide h5
          have X5 := hide (row_low (B := w.heap.size + 1) (unhide X4) hb5 (Nat.lt_succ_self _))
          have W5 := hide ((unhide W4).trans (hb5.mono (Nat.le_succ _)))
          have Z5 := hide (Nat.le_trans (unhide Z4) hb5.size)
          have AE := hide (show A ++ (⟨#[32]⟩ ++ Nm ++ ⟨#[61, 34]⟩ ++ S ++ ⟨#[34]⟩ : ByteArray).data.toList = [60] ++ n0.data.toList ++ ((n2.zip n3).take (i + 1)).flatMap attr from by
            rw [unhide ZT, List.flatMap_append, unhide HA]
            simp only [bapp, unhide hS, attr, List.flatMap_cons, List.flatMap_nil, List.append_nil, List.append_assoc])
          clear h5 hb5 B4 X4 W4 Z4
          go_wp2_with fail
          exact ⟨⟨i + 1, _, by omega, by rfl, B5, X5, W5, Z5, AE⟩, by simp [Go.RowKit.intOf]; omega⟩
        · have hi' : i = n2.length := by omega
          subst hi'
          have f1 := (unhide HX).at (o := 1) (v := .string n1) rfl
          have fz := (unhide HX).lt
          have hm' := hide ((unhide HM).keep (unhide HW))
          have HA1 := hide (show A = [60] ++ n0.data.toList ++ attrs ⟨n0, n1, n2, n3, (n : Int)⟩ from by rw [unhide HA, zip_full n2 n3 (unhide HN3)]; rfl)
          clear HA
          go_wp2_with fail
          refine (marked_e n1 _ L1 (unhide hm')).mono ?_
          rintro e w4 ⟨⟨S, rfl, hS, hSl⟩, hb4⟩
          have B4 := hide (bld_keep (unhide HB) hb4)
          have X4 := hide ((unhide HX).keep hb4)
          have W4 := hide (bTr (unhide HW) hb4)
          have Z4 := hide (Nat.le_trans (unhide HZ) hb4.size)
          clear hb4 HB HX HW HZ hm' f1 fz
          go_wp2_with fail
          refine (bld_write (w.heap.size + 1) (w.heap.size + 1) _ _ _ (unhide B4) (by rw [Lib.byteCells_length]; simp only [ByteArray.size_append]; have t1 : (⟨#[62]⟩ : ByteArray).size = 1 := rfl; omega) (unhide Z4)).mono ?_
          rintro e w5 ⟨rfl, h5, hb5⟩
          rw [wrc] at h5
          have AE : A ++ (⟨#[62]⟩ ++ S : ByteArray).data.toList = hdx ⟨n0, n1, n2, n3, (n : Int)⟩ := by
            rw [unhide HA1]
            simp only [bapp, unhide hS, hdx]
          rw [AE] at h5
          have B5 := hide h5
          have X5 := hide (row_low (B := w.heap.size + 1) (unhide X4) hb5 (Nat.lt_succ_self _))
          have W5 := hide ((unhide W4).trans (hb5.mono (Nat.le_succ _)))
          have Z5 := hide (Nat.le_trans (unhide Z4) hb5.size)
          clear h5 hb5 B4 X4 W4 Z4 AE HA1 hS hSl hAl
          have f4 := (unhide X5).at (o := 4) (v := .int .i64 (n : Int)) rfl
          have fz := (unhide X5).lt
          go_wp2_with fail
          go_loopw [5, 48] (fun u q w' => ∃ (i kk : Nat) (pre : List DT), q = .int .i64 i ∧ i ≤ n ∧ Hid (KidsD (takeD l r) n (k + 1) i pre kk) ∧ Hid (SlD b off cap l kk u) ∧ Hid (Lib.IsBuilderF 71 5 (w.heap.size + 1) (w.heap.size + 1) (Lib.byteCells (hdx ⟨n0, n1, n2, n3, (n : Int)⟩ ++ pre.flatMap (dtx r))) w') ∧ Hid (RowIs w' w.heap.size #[.string n0, .string n1, .slice a2 n2.length p2, .slice a3 n3.length p3, .int .i64 (n : Int)] 35) ∧ Hid (Below w.heap.size w w') ∧ Hid (w.heap.size + 1 ≤ w'.heap.size)) (fun _ q _ => n - (Go.RowKit.intOf q).toNat)
          case atStart => exact ⟨0, k + 1, [], rfl, Nat.zero_le _, hide (KidsD.start _ _ _), R0, hide (by simpa using unhide B5), X5, W5, Z5⟩
          case round =>
            obtain ⟨i, kk, pre, rfl, hi, HK, HS, HB, HX, HW, HZ⟩ := hrel
            clear B5 X5 W5 Z5 f4 fz R0
            obtain ⟨us, hus, hpre⟩ := kids_pre (unhide HK) (unhide HKS)
            have hAl : (hdx ⟨n0, n1, n2, n3, (n : Int)⟩ ++ pre.flatMap (dtx r)).length + (endx ⟨n0, n1, n2, n3, (n : Int)⟩).length ≤ 720000 := by
              have := unhide HLEN
              simp only [dtx, DT.n, DT.kids, hpre, List.flatMap_append, List.length_append] at this
              simp only [List.length_append]
              omega
            by_cases hlt : i < n
            · obtain ⟨t1, k1, ht1⟩ := kids_next (unhide HK) (unhide HKS) hlt
              have q1 := dtx_len (unhide HH) _ _ _ _ ht1
              have hS1 : (dtx r t1).length ≤ 720000 := by omega
              have qc := hide (IH kk k1 t1 _ wr ht1 (unhide HS) ((unhide HD).keep (unhide HW)) ((unhide HM).keep (unhide HW)))
              have HK1 := hide ((unhide HK).step hlt ht1)
              obtain ⟨o1, hu, _⟩ := unhide HS
              subst hu
              obtain ⟨S, hS⟩ : ∃ S : ByteArray, ⟨(dtx r t1).toArray⟩ = S := ⟨_, rfl⟩
              rw [hS] at qc
              have HSd := hide (show S.data.toList = dtx r t1 by rw [← hS])
              have hSl : S.size ≤ 720000 := by rw [Lib.size_eq, unhide HSd]; exact hS1
              clear hS q1 ht1 hus hpre
              go_wp2_with fail
              refine (unhide qc).mono ?_
              rintro e w4 ⟨⟨v', rfl, hv'⟩, hb4⟩
              have HV := hide hv'
              have B4 := hide (bld_keep (unhide HB) hb4)
              have X4 := hide ((unhide HX).keep hb4)
              have W4 := hide (bTr (unhide HW) hb4)
              have Z4 := hide (Nat.le_trans (unhide HZ) hb4.size)
              clear hb4 HB HX HW HZ qc hv' HS
              go_wp2_with fail
              refine (bld_write (w.heap.size + 1) (w.heap.size + 1) _ _ _ (unhide B4) (by rw [Lib.byteCells_length]; omega) (unhide Z4)).mono ?_
              rintro e w5 ⟨rfl, h5, hb5⟩
              rw [wrc] at h5
              have AE : (hdx ⟨n0, n1, n2, n3, (n : Int)⟩ ++ pre.flatMap (dtx r)) ++ S.data.toList = hdx ⟨n0, n1, n2, n3, (n : Int)⟩ ++ (pre ++ [t1]).flatMap (dtx r) := by
                rw [unhide HSd]; simp
              rw [AE] at h5
              have B5 := hide h5
              have X5 := hide (row_low (B := w.heap.size + 1) (unhide X4) hb5 (Nat.lt_succ_self _))
              have W5 := hide ((unhide W4).trans (hb5.mono (Nat.le_succ _)))
              have Z5 := hide (Nat.le_trans (unhide Z4) hb5.size)
              clear h5 hb5 B4 X4 W4 Z4 AE
              go_wp2_with fail
              exact ⟨⟨i + 1, k1, pre ++ [t1], by rfl, by omega, HK1, HV, B5, X5, W5, Z5⟩, by simp [Go.RowKit.intOf]; omega⟩
            · have hi' : i = n := by omega
              subst hi'
              have hdone := (unhide HK).done
              rw [unhide HKS] at hdone
              obtain ⟨rfl, rfl⟩ : ks = pre ∧ k' = kk := by simpa using hdone
              have f0 := (unhide HX).at (o := 0) (v := .string n0) rfl
              have fz := (unhide HX).lt
              clear hus hpre hdone
              obtain ⟨o1, hu, _⟩ := unhide HS
              subst hu
              go_wp2_with fail
              refine (bld_write (w.heap.size + 1) (w.heap.size + 1) _ _ _ (unhide HB) (by rw [Lib.byteCells_length]; simp only [ByteArray.size_append, List.length_append] at hAl ⊢; have t1 : (⟨#[60, 47]⟩ : ByteArray).size = 2 := rfl; have t2 : (⟨#[62]⟩ : ByteArray).size = 1 := rfl; omega) (unhide HZ)).mono ?_
              rintro e w5 ⟨rfl, h5, hb5⟩
              rw [wrc] at h5
              have AE : (hdx ⟨n0, n1, n2, n3, (i : Int)⟩ ++ ks.flatMap (dtx r)) ++ (⟨#[60, 47]⟩ ++ n0 ++ ⟨#[62]⟩ : ByteArray).data.toList = dtx (r + 1) (.node ⟨⟨n0, n1, n2, n3, (i : Int)⟩, ⟨a2, n2.length, p2⟩, ⟨a3, n3.length, p3⟩⟩ k ks) := by
                simp only [bapp, dtx, DT.n, DT.kids, endx]
              rw [AE] at h5
              have B5 := hide h5
              have W5 := hide ((unhide HW).trans (hb5.mono (Nat.le_succ _)))
              have Z5 := hide (Nat.le_trans (unhide HZ) hb5.size)
              clear h5 hb5 HB HX HW HZ AE f0 fz
              go_wp2_with fail
              refine (Tryd.Builder_String_any_f (w.heap.size + 1) (w.heap.size + 1) _ w5 (unhide B5) (unhide Z5)).mono ?_
              rintro e w6 ⟨rfl, hb6⟩
              go_wp2_with fail
              go_ret2
              exact ⟨⟨_, rfl, unhide HS⟩, (unhide W5).trans (hb6.2.mono (Nat.le_succ _))⟩
    )
end Go.Proofs.YtdhpfhpegaekpaaDoor.V
