/- TTys, ABlk, one behind the other. -/
import Derived.Test.YticidjceljjfnaaGreatDoorJ24
import Derived.Test.YticidjceljjfnaaGreatDoorJ13
import Derived.Lib.SplitLaws
/- Tuples' texts: spec.TupleText. -/
namespace Go.Proofs.YticidjceljjfnaaGreatDoor.V
open Go.RowKit
set_option maxRecDepth 20000

def TxtR (t : TupT) (e : Ending) : Prop := ∃ r : ByteArray, e = .returned (.string r) ∧ TxtIs t r
theorem sub_size {t : TupT} (ht : t.Ok) (hf : Form t) : (subT t).size ≤ 300000 := by
  obtain ⟨z0, z1, z2, z3, z4, z5, z6⟩ := hf.small
  unfold subT subR cavR
  have f1 : (⟨#[58]⟩ : ByteArray).size = 1 := rfl
  have f2 : (⟨#[35]⟩ : ByteArray).size = 1 := rfl
  have f3 : (⟨#[91]⟩ : ByteArray).size = 1 := rfl
  have f4 : (⟨#[93]⟩ : ByteArray).size = 1 := rfl
  have f5 : (⟨#[]⟩ : ByteArray).size = 0 := rfl
  by_cases hc : t.cav = ⟨#[]⟩
  · rw [if_pos hc]
    split <;> simp only [ByteArray.size_append] <;> omega
  · have := val_size ht.g (hf.recd hc)
    rw [if_neg hc]
    split <;> simp only [ByteArray.size_append] <;> omega

set_option maxHeartbeats 4000000 in
theorem sTupleText_any (t : TupT) (ht : t.Ok) (a1 a2 : Option Addr) (l1 c1 l2 c2 : Nat) (w : World) (hl : l1 ≤ maxLen) (hs1 : SlA w a1 l1 t.g.items) (hs2 : SlS w a2 l2 t.g.names) :
    Calls Tryz.prog 6 #[tAg t a1 l1 c1 a2 l2 c2] w fun e w' => TxtR t e ∧ Below w.heap.size w w' := by
  obtain ⟨W0, hW0⟩ : ∃ W, W = w.alloc (.cells #[.string t.ty, .string t.id, .string t.rel, .string t.sty, .string t.sid, .string t.srel, .string t.cav, .int .i64 t.g.k, .int .i64 t.g.a.x, .int .i64 t.g.a.n, .string t.g.a.t, .string t.g.a.y, .slice a1 l1 c1, .slice a2 l2 c2] 37) := ⟨_, rfl⟩
  have ta : TupAt W0 w.heap.size t (.slice a1 l1 c1) (.slice a2 l2 c2) := by rw [hW0]; exact TupAt.new _ _ _ _ _
  have b0 : Below w.heap.size w W0 := by rw [hW0]; exact bAl (Below.refl _ _) _
  have HS1 := hide hs1
  have HS2 := hide hs2
  have TA := hide ta
  have B0 := hide b0
  have HW := hide hW0
  have q1 := hide (fun w h1 h2 => l7Form_any t ht a1 a2 l1 c1 l2 c2 w hl h1 h2)
  have q2 := hide (fun (hf : Form t) w h1 h2 => l7Subject_any t ht a1 a2 l1 c1 l2 c2 w h1 h2 hf)
  have zS := hide (fun (hf : Form t) => sub_size ht hf)
  have eT := hide (show tupT t = t.ty ++ ⟨#[58]⟩ ++ t.id ++ ⟨#[35]⟩ ++ t.rel ++ ⟨#[64]⟩ ++ subT t from rfl)
  have HI := hide (fun r => (Iff.rfl : TxtIs t r ↔ ((Form t → r = tupT t) ∧ (¬ Form t → r = ⟨#[]⟩))))
  clear hs1 hs2 ta b0 ht hl hW0
  go_enter Tryz.func6, Tryz.ntmps6
  go_wp2_with fail
  rw [← unhide HW]
  refine (unhide q1 _ ((unhide HS1).keep (unhide B0)) ((unhide HS2).keep (unhide B0))).mono ?_
  rintro e w1 ⟨⟨b, rfl, hgb⟩, hb⟩
  have B1 := hide (bTr (unhide B0) hb)
  replace TA := hide ((unhide TA).keep hb)
  have HG := hide hgb
  clear hgb hb q1 B0
  cases b
  · go_wp2_with fail
    go_ret
    exact ⟨⟨_, rfl, fun h => absurd ((unhide HG).2 h) (by decide), fun _ => rfl⟩, unhide B1⟩
  have hf := (unhide HG).1 rfl
  obtain ⟨z0, z1, z2, z3, z4, z5, z6⟩ := hf.small
  have HF := hide hf
  have zS2 := unhide zS hf
  have qK := hide (fun (x : Kept w1) => unhide q2 hf x.w ((unhide HS1).keep (bTr (unhide B1) x.h)) ((unhide HS2).keep (bTr (unhide B1) x.h)))
  clear hf q2 zS HG
  generalize subT t = ST at eT zS2 qK
  have lt := (unhide TA).lt
  have ne : Nonempty (Kept w1) := ⟨⟨w1, Below.refl _ _⟩⟩
  have x0 := kept_cell lt (unhide TA).d0
  have x1 := kept_cell lt (unhide TA).d1
  have x2 := kept_cell lt (unhide TA).d2
  have x3 := kept_cell lt (unhide TA).d3
  have x4 := kept_cell lt (unhide TA).d4
  have x5 := kept_cell lt (unhide TA).d5
  have x6 := kept_cell lt (unhide TA).d6
  have x7 := kept_cell lt (unhide TA).d7
  have x8 := kept_cell lt (unhide TA).d8
  have x9 := kept_cell lt (unhide TA).d9
  have x10 := kept_cell lt (unhide TA).d10
  have x11 := kept_cell lt (unhide TA).d11
  have x12 := kept_cell lt (unhide TA).d12
  have x13 := kept_cell lt (unhide TA).d13
  have s1 : ¬ 9223372036854775806 < t.ty.size := by omega
  have s2 : ¬ 9223372036854775807 < t.ty.size + 1 + t.id.size := by omega
  have s3 : ¬ 9223372036854775806 < t.ty.size + 1 + t.id.size := by omega
  have s4 : ¬ 9223372036854775807 < t.ty.size + 1 + t.id.size + 1 + t.rel.size := by omega
  have s5 : ¬ 9223372036854775806 < t.ty.size + 1 + t.id.size + 1 + t.rel.size := by omega
  have s6 : ¬ 9223372036854775807 < t.ty.size + 1 + t.id.size + 1 + t.rel.size + 1 + ST.size := by omega
  clear lt
  go_wp2_with fail
  refine wp_region_kept (by kernel_rfl) (by kernel_rfl) ?_
  repeat (first
    | go_big_quiet_step ((go_at_call 16; exact kept_call (unhide qK _)))
    | quiet_step ((go_at_call 16; exact kept_call (unhide qK _))))
  refine wpQuiet_nil ?_
  rintro _ ⟨q, rfl⟩
  obtain ⟨w3, hb3⟩ := q
  go_wp2_with fail
  go_ret
  exact ⟨⟨_, rfl, fun _ => (by rw [unhide eT]), fun h => absurd (unhide HF) h⟩, bTr (unhide B1) hb3⟩
end Go.Proofs.YticidjceljjfnaaGreatDoor.V
/- impl.guessBlock. -/
namespace Go.Proofs.YticidjceljjfnaaGreatDoor
open Go.RowKit
set_option maxRecDepth 20000

/-- The first j parts give F, where the parts are four bytes' digits. -/
def PInv (P : List (List UInt8)) (j : Nat) (F : Int) : Prop := ∀ xs : List Int, P = xs.map Lib.itoa → (∀ x ∈ xs, 0 ≤ x ∧ x ≤ 255) → xs.length = 4 → F = f256 (xs.take j)
theorem f256_lt : ∀ (xs : List Int), (∀ x ∈ xs, 0 ≤ x ∧ x ≤ 255) → xs.length ≤ 4 → 0 ≤ f256 xs ∧ f256 xs < 4294967296 := by
  intro xs h hl
  match xs, hl with
  | [], _ => exact ⟨by simp [f256], by simp [f256]⟩
  | [a], _ => have ha := h a (by simp); simp [f256]; omega
  | [a, b], _ => have ha := h a (by simp); have hb := h b (by simp); simp [f256]; omega
  | [a, b, c], _ => have ha := h a (by simp); have hb := h b (by simp); have hc := h c (by simp); simp [f256]; omega
  | [a, b, c, d], _ => have ha := h a (by simp); have hb := h b (by simp); have hc := h c (by simp); have hd := h d (by simp); simp [f256]; omega
theorem PInv.step {P : List (List UInt8)} {j : Nat} {F N : Int} (h : PInv P j F) (hj : j < P.length) (hN : ∀ v : Int, Lib.atoiAll P[j] = .ok v → N = v) : PInv P (j + 1) (wrap64 (wrap64 (F * 256) + N)) := by
  intro xs e hx hl
  have hjx : j < xs.length := by rw [e, List.length_map] at hj; exact hj
  have hF := h xs e hx hl
  have hv := hx xs[j] (List.getElem_mem _)
  have e1 : N = xs[j] := hN _ (by
    have : P[j] = Lib.itoa xs[j] := by subst e; simp
    rw [this]
    exact atoi_itoa _ (by omega) (by omega))
  rw [List.take_succ_eq_append_getElem hjx, f256_snoc, ← hF, e1]
  have hb := f256_lt (xs.take j) (fun x hx' => hx x (List.mem_of_mem_take hx')) (by rw [List.length_take]; omega)
  rw [← hF] at hb
  unfold wrap64
  omega
theorem four_is (f : Int) : f256 (four f) = f := by
  unfold four f256
  simp only [List.foldl_cons, List.foldl_nil]
  omega
theorem four_in (f : Int) (h0 : 0 ≤ f) (h1 : f < 4294967296) : ∀ x ∈ four f, 0 ≤ x ∧ x ≤ 255 := by
  intro x hx
  unfold four at hx
  simp only [List.mem_cons, List.not_mem_nil, or_false] at hx
  omega
def BlkRet (l : List UInt8) (e : Ending) : Prop := ∃ N : Int, e = .returned (.int .i64 N) ∧ (-9223372036854775808 ≤ N ∧ N ≤ 9223372036854775807) ∧ ∀ f b : Int, 0 ≤ f → f < 4294967296 → 0 ≤ b → b ≤ 32 → l = blkL f b → N = f * 64 + b
theorem w64_in (x : Int) : -9223372036854775808 ≤ wrap64 x ∧ wrap64 x ≤ 9223372036854775807 := by unfold wrap64; omega

theorem part_size (sep : ByteArray) : ∀ (k : Nat) (s : ByteArray), ∀ x ∈ Lib.splitB sep 0 k s, x.size ≤ s.size
  | 0, s, x, hx => by
    rw [Lib.splitB_zero, List.mem_singleton] at hx
    rw [hx]; exact Nat.le_refl _
  | k + 1, s, x, hx => by
    unfold Lib.splitB at hx
    split at hx
    · rw [List.mem_singleton] at hx
      rw [hx]; exact Nat.le_refl _
    · rw [List.mem_cons] at hx
      rcases hx with rfl | hx
      · rw [ByteArray.size_extract]; omega
      · have := part_size sep k _ x hx
        rw [ByteArray.size_extract] at this
        omega

set_option maxHeartbeats 2000000 in
theorem guessBlock_any (s : ByteArray) (w : World) (hs : s.size ≤ 1048576) (hE : Env w) :
    Calls Tryz.prog 150 #[.string s] w fun e w' => BlkRet s.data.toList e ∧ Below w.heap.size w w' := by
  have zs := sz_list s
  have q1 := hide (strCutC 47 s w hs)
  obtain ⟨A, hA⟩ : ∃ A : ByteArray, (⟨(cutC 47 s.data.toList).1.toArray⟩ : ByteArray) = A := ⟨_, rfl⟩
  obtain ⟨B, hB⟩ : ∃ B : ByteArray, (⟨(cutC 47 s.data.toList).2.toArray⟩ : ByteArray) = B := ⟨_, rfl⟩
  have cl : (cutC 47 s.data.toList).1.length ≤ s.data.toList.length ∧ (cutC 47 s.data.toList).2.length ≤ s.data.toList.length := by
    unfold cutC
    split
    · simp; omega
    · simp
  have zA : A.size ≤ 1048576 := by rw [← hA]; show (cutC 47 s.data.toList).1.toArray.size ≤ _; rw [List.size_toArray]; omega
  have zB : B.size ≤ 1048576 := by rw [← hB]; show (cutC 47 s.data.toList).2.toArray.size ≤ _; rw [List.size_toArray]; omega
  have hfit := hide (show ∀ f b : Int, s.data.toList = blkL f b → A.data.toList = Lib.join ((four f).map Lib.itoa) [46] ∧ B.data.toList = Lib.itoa b by
    intro f b e
    have hn : (47 : UInt8) ∉ Lib.join ((four f).map Lib.itoa) [46] := by
      intro hm
      unfold four at hm
      simp only [List.map_cons, List.map_nil, Lib.join, List.intercalate, List.intersperse, List.flatten_cons, List.flatten_nil, List.mem_append, List.append_nil, List.mem_singleton] at hm
      have nd : ¬ Dig 47 := by unfold Dig; decide
      have n45 : ¬ (47 : UInt8) = 45 := by decide
      rcases hm with h | h | h | h | h | h | h
      · exact itoa_not _ n45 nd h
      · exact absurd h (by decide)
      · exact itoa_not _ n45 nd h
      · exact absurd h (by decide)
      · exact itoa_not _ n45 nd h
      · exact absurd h (by decide)
      · exact itoa_not _ n45 nd h
    have e2 : cutC 47 s.data.toList = (Lib.join ((four f).map Lib.itoa) [46], Lib.itoa b) := by rw [e]; exact cutC_app 47 _ _ hn
    rw [← hA, ← hB, e2]
    exact ⟨rfl, rfl⟩)
  rw [hA, hB] at q1
  clear hA hB cl
  have q2 := hide (fun m w hm => Tryz.strings_Split A ⟨#[46]⟩ m w (by omega) hm (by decide))
  obtain ⟨L, hL⟩ : ∃ L, Lib.splitB ⟨#[46]⟩ 0 (Lib.countB A ⟨#[46]⟩) A = L := ⟨_, rfl⟩
  have hlen : L.length = Lib.countB A ⟨#[46]⟩ + 1 := by rw [← hL]; exact Lib.splitB_all _ (by decide) 0 _ _ rfl
  have hcnt : Lib.countB A ⟨#[46]⟩ ≤ A.size := Lib.countB_le _ (by decide) A.size A (Nat.le_refl _)
  have hsz := hide (show ∀ x ∈ L, x.size ≤ 1048576 from fun x hx => by rw [← hL] at hx; have := part_size _ _ _ x hx; omega)
  have hparts := hide (show ∀ f b : Int, s.data.toList = blkL f b → L.map (·.data.toList) = (four f).map Lib.itoa by
    intro f b e
    have e1 := (unhide hfit f b e).1
    rw [← hL, Lib.splitB_data]
    show Lib.splitK [46] 0 (Lib.count A.data.toList [46]) A.data.toList = _
    rw [e1]
    refine split_join 46 (Lib.itoa (f / 16777216)) _ ?_
    intro y hy
    have nd : ¬ Dig 46 := by unfold Dig; decide
    have n45 : ¬ (46 : UInt8) = 45 := by decide
    simp only [List.map_cons, List.map_nil, List.mem_cons, List.not_mem_nil, or_false] at hy
    rcases hy with rfl | rfl | rfl | rfl
    · exact itoa_not _ n45 nd
    · exact itoa_not _ n45 nd
    · exact itoa_not _ n45 nd
    · exact itoa_not _ n45 nd)
  rw [hL, ← hlen] at q2
  have hLl : L.length ≤ 1048577 := by omega
  have HE := hide hE
  clear hE hL hcnt hlen
  go_enter Tryz.func150, Tryz.ntmps150
  go_wp2_with fail
  refine (unhide q1).mono ?_
  rintro e w1 ⟨⟨bb, rfl⟩, hb1⟩
  replace HE := hide ((unhide HE).keep hb1)
  have B1 := hide hb1
  clear hb1 q1
  obtain ⟨m, hm⟩ := (unhide HE).max
  have q3 := hide (unhide q2 m w1 hm)
  clear q2 hm
  go_wp2_with fail
  refine (unhide q3).mono ?_
  rintro e w2 ⟨rfl, rfl⟩
  have R := hide (RowIs.new w1 (L.map Value.string).toArray 9)
  have B2 := hide (bTr (unhide B1) (bAl (Below.refl w1.heap.size w1) (.cells (L.map Value.string).toArray 9)))
  replace HE := hide ((unhide HE).keep (bAl (Below.refl w1.heap.size w1) (.cells (L.map Value.string).toArray 9)))
  obtain ⟨W2, hW2⟩ : ∃ W, W = w1.alloc (.cells (L.map Value.string).toArray 9) := ⟨_, rfl⟩
  rw [← hW2] at R B2 HE ⊢
  have lt1 : w1.heap.size < W2.heap.size := by rw [hW2]; simp
  clear q3 B1 hW2
  have hP0 := hide (show PInv (L.map (·.data.toList)) 0 0 from fun xs _ _ _ => by simp [f256])
  go_wp2_with fail
  go_loopw [6, 18] (fun v i w' => ∃ (k : Nat) (F : Int), k ≤ L.length ∧ i = .int .i64 k ∧ v = .int .i64 F ∧ (-9223372036854775808 ≤ F ∧ F ≤ 9223372036854775807) ∧ Hid (PInv (L.map (·.data.toList)) k F) ∧ Hid (Below W2.heap.size W2 w')) (fun _ i _ => L.length - (intOf i).toNat)
  case atStart => exact ⟨0, 0, Nat.zero_le _, rfl, rfl, by omega, hP0, hide (Below.refl _ _)⟩
  case round =>
    obtain ⟨k, F, hk, rfl, rfl, hF, hp, hb⟩ := hrel
    have HEr := hide ((unhide HE).keep (unhide hb))
    by_cases hlt : k < L.length
    · obtain ⟨x, hx⟩ : ∃ x, L[k] = x := ⟨_, rfl⟩
      have zx : x.size ≤ 1048576 := unhide hsz x (by rw [← hx]; exact List.getElem_mem _)
      have ck : wr.cell? ⟨w1.heap.size, k, none⟩ = some (.string x) := ((unhide R).keep (unhide hb)).get (by simp [hlt, hx])
      have q4 := hide (fun w h => guessNum_any x w zx h)
      have st := hide (show ∀ N : Int, (∀ v : Int, Lib.atoiAll x.data.toList = .ok v → N = v) → PInv (L.map (·.data.toList)) (k + 1) (wrap64 (wrap64 (F * 256) + N)) from fun N hN =>
        (unhide hp).step (by rw [List.length_map]; exact hlt) (fun v hv => hN v (by rw [← hx]; simpa using hv)))
      clear hx
      go_wp2_with fail
      refine (unhide q4 _ (unhide HEr)).mono ?_
      rintro e w3 ⟨⟨N, rfl, hN, hv⟩, hb3⟩
      have sn := hide (unhide st N hv)
      have B3 := hide (bTr (unhide hb) hb3)
      have hr := w64_in (wrap64 (F * 256) + N)
      clear hb3 hv st q4 hp hb ck
      go_wp2_with fail
      exact ⟨⟨k + 1, _, by omega, by simp, rfl, hr, sn, B3⟩, by simp [intOf]; omega⟩
    · have ek : k = L.length := by omega
      have fin := hide (show ∀ N : Int, (∀ v : Int, Lib.atoiAll B.data.toList = .ok v → N = v) → ∀ f b : Int, 0 ≤ f → f < 4294967296 → 0 ≤ b → b ≤ 32 → s.data.toList = blkL f b → wrap64 (wrap64 (F * 64) + N) = f * 64 + b by
        intro N hN f b f0 f1 b0 b1 e
        have e1 := unhide hp (four f) (unhide hparts f b e) (four_in f f0 f1) rfl
        have e2 : L.length = 4 := by have := congrArg List.length (unhide hparts f b e); simpa [four] using this
        rw [ek, e2, show (four f).take 4 = four f from rfl, four_is] at e1
        have e3 := hN b (by rw [(unhide hfit f b e).2]; exact atoi_itoa b (by omega) (by omega))
        rw [e1, e3]
        unfold wrap64
        omega)
      have q4 := hide (fun w h => guessNum_any B w zB h)
      clear hp
      go_wp2_with fail
      refine (unhide q4 _ (unhide HEr)).mono ?_
      rintro e w3 ⟨⟨N, rfl, hN, hv⟩, hb3⟩
      have sn := hide (unhide fin N hv)
      have B3 := hide (bTr (bTr (unhide B2) (unhide hb)) hb3)
      have hr := w64_in (wrap64 (F * 64) + N)
      clear hb3 hv fin q4 hb
      go_wp2_with fail
      go_ret
      exact ⟨⟨_, rfl, hr, unhide sn⟩, unhide B3⟩
end Go.Proofs.YticidjceljjfnaaGreatDoor
