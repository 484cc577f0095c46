/- impl.CapText. -/
import Derived.Test.YtfdfglblcgdoiaaDoorKGb
import Derived.Laws.OwnMore
namespace Go.Proofs.YtfdfglblcgdoiaaDoor.V
open Go.RowKit
set_option maxRecDepth 20000
theorem join_flat : ∀ L : List (List UInt8), Lib.join L [] = L.flatten
  | [] => by simp [Lib.join, List.intercalate]
  | [a] => by simp [Lib.join, List.intercalate]
  | a :: b :: L => by
    have ih := join_flat (b :: L)
    simp [Lib.join, List.intercalate] at ih ⊢
    exact ih
theorem join_any {w : World} {base : Nat} {v : Value} {L : List (List UInt8)} (sep : ByteArray) (h : w.ownsRow base 9 1 v L.length (strsV L)) (hL : L.length ≤ 100) (hz : (Lib.join L sep.data.toList).length ≤ 140737488355328) :
    Calls Tryd.prog 20 #[v, .string sep] w fun e w' => e = .returned (.string ⟨(Lib.join L sep.data.toList).toArray⟩) ∧ Below w.heap.size w w' := by
  rcases h.2 with ⟨rfl, e⟩ | ⟨g, cap, cur, rfl, _, hh, hc, _, hsz, htk⟩
  · have : L = [] := List.length_eq_zero_iff.1 e
    subst this
    refine (Tryd.strings_Join_none none 0 sep w).mono ?_
    rintro e w' ⟨rfl, rfl⟩
    exact ⟨by simp [Lib.join, List.intercalate], Below.refl _ _⟩
  · have hr : V.RowIs w g cur 9 := hh
    have hlt : g < w.heap.size := (Array.getElem?_eq_some_iff.1 hh).1
    have := Tryd.strings_Join g 0 cap (L.map fun x => ⟨x.toArray⟩) sep w (fun j x hj => by
        have f0 : (strsV L)[j]? = some (.string x) := by
          unfold strsV
          rw [List.getElem?_map] at hj ⊢
          obtain ⟨y, h1, h2⟩ := Option.map_eq_some_iff.1 hj
          rw [h1]; simp [← h2]
        rw [← htk, List.getElem?_take] at f0
        rw [Nat.zero_add, hr.cell, ← Array.getElem?_toList]
        split at f0
        · exact f0
        · cases f0) hlt (by simp; omega) (by simpa using hc) (by
        have e : (L.map fun x => (⟨x.toArray⟩ : ByteArray)).map (·.data.toList) = L := by rw [List.map_map]; exact List.map_id'' (fun x => by simp) L
        rw [e]
        exact hz)
    have e : (L.map fun x => (⟨x.toArray⟩ : ByteArray)).map (·.data.toList) = L := by rw [List.map_map]; exact List.map_id'' (fun x => by simp) L
    rw [e, List.length_map] at this
    exact this
theorem lineL_len (x : CavTermT) (ok : x.Ok) : (lineL x).length ≤ 501 := by
  have h1 := termX_le x ok
  have h2 : (termX x).data.toList.length = (termX x).size := by show _ = (termX x).data.size; simp
  unfold lineL
  rw [List.length_append, h2, List.length_cons, List.length_nil]
  omega
set_option maxHeartbeats 1000000 in
theorem line_any (x : CavTermT) (w : World) (ok : x.Ok) (hS : Signs w) (hT : Tab w) :
    Calls Tryd.prog 18 #[.agg #[.string x.f0, .int .i64 x.f1, .string x.f2, .int .i64 x.f3, .int .i64 x.f4, .string x.f5, .string x.f6]] w fun e w' => e = .returned (.string ⟨(lineL x).toArray⟩) ∧ Below w.heap.size w w' := by
  have q := hide (fun w hS hT => iTermText_any x w ok hS hT)
  have zX := termX_le x ok
  have EQ := hide (show termX x ++ (⟨#[10]⟩ : ByteArray) = ⟨(lineL x).toArray⟩ by
    apply ByteArray.ext
    apply Array.toList_inj.1
    simp [ByteArray.data_append, lineL])
  generalize (⟨(lineL x).toArray⟩ : ByteArray) = LX at EQ ⊢
  generalize termX x = X at q zX EQ
  have hgz := hT.lt
  have hsz := hS.z
  obtain ⟨W2, hW2⟩ : ∃ W2, W2 = w.alloc (.cells #[.string x.f0, .int .i64 x.f1, .string x.f2, .int .i64 x.f3, .int .i64 x.f4, .string x.f5, .string x.f6] 40) := ⟨_, rfl⟩
  have bW := hide (show Below w.heap.size w W2 by rw [hW2]; exact bAl (Below.refl _ _) _)
  have R2 := show RowIs W2 w.heap.size #[.string x.f0, .int .i64 x.f1, .string x.f2, .int .i64 x.f3, .int .i64 x.f4, .string x.f5, .string x.f6] 40 by rw [hW2]; exact RowIs.new _ _ _
  have HW2 := hide hW2.symm
  have HS := hide (hS.keep (unhide bW))
  have HT := hide (hT.keep (unhide bW))
  have x0 := R2.at (o := 0) (v := .string x.f0) rfl
  have x1 := R2.at (o := 1) (v := .int .i64 x.f1) rfl
  have x2 := R2.at (o := 2) (v := .string x.f2) rfl
  have x3 := R2.at (o := 3) (v := .int .i64 x.f3) rfl
  have x4 := R2.at (o := 4) (v := .int .i64 x.f4) rfl
  have x5 := R2.at (o := 5) (v := .string x.f5) rfl
  have x6 := R2.at (o := 6) (v := .string x.f6) rfl
  have zx := R2.lt
  have k1 : ¬ 9223372036854775806 < X.size := by omega
  clear hW2 R2 ok hS hT
  go_enter Tryd.func18, Tryd.ntmps18
  go_upto_region 1 with fail
  rw [unhide HW2]
  go_wp2_with fail
  refine (unhide q _ (unhide HS) (unhide HT)).mono ?_
  rintro e w3 ⟨rfl, hb3⟩
  have B3 := hide (bTr (unhide bW) hb3)
  clear hb3 bW q x0 x1 x2 x3 x4 x5 x6 zx HS HT HW2
  go_wp2_with fail
  go_ret
  exact ⟨by rw [← unhide EQ]; rfl, unhide B3⟩
set_option maxHeartbeats 4000000 in
theorem joined_any (at' : Option Addr) (lt ct : Nat) (T : List CavTermT) (w : World) (hl : lt ≤ 20) (hs : SlCavTerm w at' lt T) (ok : ∀ q ∈ T, CavTermT.Ok q) (hS : Signs w) (hT : Tab w) :
    Calls Tryd.prog 17 #[.slice at' lt ct, .string ⟨#[]⟩, .func (.func 18) #[] #[]] w fun e w' => e = .returned (.string ⟨(linesL T).toArray⟩) ∧ Below w.heap.size w w' := by
  obtain ⟨i0, hi0, hz0, hz1, hz2⟩ := info_parts info_str
  have HS := hide hs
  have HLL := hide hs.1
  have HO := hide ok
  have HSg := hide hS
  have HT := hide hT
  clear hs ok hS hT
  obtain ⟨L, hL⟩ : ∃ L, L = T.map lineL := ⟨_, rfl⟩
  have HL := hide hL
  have LL := hide (show L.length = lt by rw [hL, List.length_map]; exact (unhide HLL).symm)
  have Lx := hide (show ∀ k (h : k < T.length), L[k]? = some (lineL T[k]) from fun k h => by rw [hL]; simp [h])
  have EF := hide (show linesL T = Lib.join L [] by rw [join_flat, hL]; simp [linesL, List.flatMap])
  have zF := linesL_len T (unhide HO)
  have ZF := hide (show (Lib.join L []).length ≤ 140737488355328 by rw [← unhide EF]; have := unhide HLL; omega)
  clear hL zF
  go_enter Tryd.func17, Tryd.ntmps17
  go_wp2_with fail
  go_loopw [7, 12] (fun v i w' => ∃ (k : Nat), k ≤ lt ∧ i = .int .i64 k ∧ Hid (w'.ownsRow w.heap.size 9 1 v k (strsV (L.take k))) ∧ Hid (Below w.heap.size w w')) (fun _ i _ => lt - (intOf i).toNat)
  case atStart => exact ⟨0, Nat.zero_le _, rfl, hide (World.ownsRow_nil _ _ _ _), hide (Below.refl _ _)⟩
  case round =>
    obtain ⟨k, hk, rfl, hown, hb⟩ := hrel
    by_cases hlt : k < lt
    · have hk' : k < T.length := by have := unhide HLL; omega
      obtain ⟨bb_, off, e0, hrow⟩ := ((unhide HS).keep (unhide hb)).at hlt
      subst e0
      have c0 := hrow.c0 k hk'
      have c1 := hrow.c1 k hk'
      have c2 := hrow.c2 k hk'
      have c3 := hrow.c3 k hk'
      have c4 := hrow.c4 k hk'
      have c5 := hrow.c5 k hk'
      have c6 := hrow.c6 k hk'
      have zk := hrow.z
      have q := hide (fun w hS hT => line_any T[k] w (unhide HO _ (List.getElem_mem hk')) hS hT)
      have st := hide (show L.take (k + 1) = L.take k ++ [lineL T[k]] by
        have := unhide Lx k hk'
        obtain ⟨h1, h2⟩ := List.getElem?_eq_some_iff.1 this
        rw [List.take_succ_eq_append_getElem h1, h2])
      clear hrow
      generalize lineL T[k] = S at q st
      generalize T[k] = A at *
      obtain ⟨W2, hW2⟩ : ∃ W2, W2 = wr.alloc (.cells #[.string A.f0, .int .i64 A.f1, .string A.f2, .int .i64 A.f3, .int .i64 A.f4, .string A.f5, .string A.f6] 40) := ⟨_, rfl⟩
      have bW := hide (show Below wr.heap.size wr W2 by rw [hW2]; exact bAl (Below.refl _ _) _)
      have R2 := show RowIs W2 wr.heap.size #[.string A.f0, .int .i64 A.f1, .string A.f2, .int .i64 A.f3, .int .i64 A.f4, .string A.f5, .string A.f6] 40 by rw [hW2]; exact RowIs.new _ _ _
      have HW2 := hide hW2.symm
      have HS2 := hide (((unhide HSg).keep (unhide hb)).keep (unhide bW))
      have HT2 := hide (((unhide HT).keep (unhide hb)).keep (unhide bW))
      have x0 := R2.at (o := 0) (v := .string A.f0) rfl
      have x1 := R2.at (o := 1) (v := .int .i64 A.f1) rfl
      have x2 := R2.at (o := 2) (v := .string A.f2) rfl
      have x3 := R2.at (o := 3) (v := .int .i64 A.f3) rfl
      have x4 := R2.at (o := 4) (v := .int .i64 A.f4) rfl
      have x5 := R2.at (o := 5) (v := .string A.f5) rfl
      have x6 := R2.at (o := 6) (v := .string A.f6) rfl
      have zx := R2.lt
      clear hW2 R2
      go_upto_region 5 with fail
      rw [unhide HW2]
      clear HW2 c0 c1 c2 c3 c4 c5 c6 zk
      go_wp2_with fail
      refine (unhide q _ (unhide HS2) (unhide HT2)).mono ?_
      rintro e w3 ⟨rfl, hb3⟩
      have b3 := hide (bTr (unhide bW) hb3)
      have o2 := hide (own_keepT (unhide hown) (unhide b3))
      have b2 := hide (bTr (unhide hb) (unhide b3))
      clear hb3 bW hb q x0 x1 x2 x3 x4 x5 x6 zx HS2 HT2 hown b3
      go_wp2_with (at_builtin; refine wpList_append_own_at _ rfl _ _ 48 rfl w.heap.size 9 i0 _ 1 16 Tryd.underlying48 hi0 hz0 hz1 hz2 rfl (by decide) _ _ _ rfl ((unhide o2).alloc _) ⟨_, 0, none⟩ 1 1 [.string _] rfl rfl (cell_one_new _ _ _) (fun x hx => by simp at hx; subst hx; rfl) (by unfold maxLen; omega) (by omega) (by have := (unhide b2).size; simp; omega) ?_; intro v3 w3 hown3 hgrow3 _ hat3)
      refine ⟨⟨k + 1, by omega, by go_num, hide ?_, hide ((bAl (unhide b2) _).grown hgrow3 (by have := (unhide b2).size; simp; omega) (fun j hj => by have := ((unhide o2).lt j hj).1; omega))⟩, by simp [intOf]; omega⟩
      rw [unhide st]
      unfold strsV
      rw [List.map_append]
      exact hown3
    · have e : k = lt := by omega
      subst e
      have e2 : L.take k = L := List.take_of_length_le (by rw [unhide LL]; exact Nat.le_refl _)
      have o1 : wr.ownsRow w.heap.size 9 1 u7 L.length (strsV L) := by
        have := unhide hown
        rw [e2] at this
        rw [unhide LL]; exact this
      have qj := hide (join_any ⟨#[]⟩ o1 (by rw [unhide LL]; omega) (unhide ZF))
      rw [show (⟨#[]⟩ : ByteArray).data.toList = [] from rfl, ← unhide EF] at qj
      clear o1 e2 hown
      go_wp2_with fail
      refine (unhide qj).mono ?_
      rintro e w2 ⟨rfl, hb2⟩
      go_wp2_with fail
      go_ret
      exact ⟨rfl, bTr (unhide hb) hb2⟩
end Go.Proofs.YtfdfglblcgdoiaaDoor.V
namespace Go.Proofs.YtfdfglblcgdoiaaDoor.D
open Go.RowKit
set_option maxRecDepth 20000
set_option maxHeartbeats 8000000 in
theorem iCapText_any (id : ByteArray) (at' ag : Option Addr) (lt ct cg : Nat) (T : List V.CavTermT) (G : List UInt8) (w : World) (hid : id.size ≤ maxLen) (hl : lt ≤ 1048576) (hs : V.SlCavTerm w at' lt T) (ok : ∀ q ∈ T, V.CavTermT.Ok q) (hg : SlB w w.heap.size ag G.length G) (hc1 : G.length ≤ cg) (hc2 : cg ≤ maxLen) (hS : V.Signs w) (hT : Tab w) :
    Calls Tryd.prog 7 #[V.capV id at' ag lt ct G.length cg] w fun e w' => TxRet id T G e ∧ Below w.heap.size w w' := by
  obtain ⟨W, hW⟩ : ∃ W, W = w.alloc (.cells (V.capC id at' ag lt ct G.length cg) 30) := ⟨_, rfl⟩
  have B := hide (show Below w.heap.size w W by rw [hW]; exact bAl (Below.refl _ _) _)
  have R := hide (show RowIs W w.heap.size (V.capC id at' ag lt ct G.length cg) 30 by rw [hW]; exact RowIs.new _ _ _)
  have S := hide (hs.keep (unhide B))
  have SG := hide (hg.keep (unhide B))
  have HW := hide hW.symm
  have HLL := hide hs.1
  have HO := hide ok
  have HSg := hide (hS.keep (unhide B))
  have HT := hide (hT.keep (unhide B))
  have HC := hide (And.intro hc1 hc2)
  have q0 := hide (fun w (hs : V.SlCavTerm w at' lt T) => V.isGood_any id at' ag lt ct G.length cg T w hid (by rw [← hs.1]; unfold maxLen; omega) hs ok)
  clear hW hs hid hl ok hg hS hT hc1 hc2
  have x0 := (unhide R).at (o := 0) (v := .string id) rfl
  have x1 := (unhide R).at (o := 1) (v := .slice at' lt ct) rfl
  have x2 := (unhide R).at (o := 2) (v := .slice ag G.length cg) rfl
  have zx := (unhide R).lt
  go_enter Tryd.func7, Tryd.ntmps7
  go_upto_region 1 with fail
  rw [unhide HW]
  go_wp2_with fail
  refine (unhide q0 _ (unhide S)).mono ?_
  rintro e w1 ⟨⟨b, rfl, hb⟩, hb1⟩
  have HB := hide hb
  have B1 := hide (bTr (unhide B) hb1)
  have R1 := hide ((unhide R).keep hb1)
  have S1 := hide ((unhide S).keep hb1)
  have SG1 := hide ((unhide SG).keep hb1)
  have HSg1 := hide ((unhide HSg).keep hb1)
  have HT1 := hide ((unhide HT).keep hb1)
  clear hb hb1 B R S SG q0 HW x0 x1 x2 zx HSg HT
  cases b
  · go_wp2_with fail
    go_ret
    exact ⟨⟨_, ⟨fun h => absurd ((unhide HB).2 h) (by simp), fun _ => rfl⟩, rfl⟩, unhide B1⟩
  have GC := hide ((unhide HB).1 (by trivial))
  clear HB
  have zid := idB_le (unhide GC).1
  have L20 : lt ≤ 20 := by have h1 := (unhide GC).2.1.1; have h2 := unhide HLL; omega
  have G16 := hide (unhide GC).2.2
  have TI := hide (fun X (h : X = capT id T G) => show TxRet id T G (.returned (.string X)) from ⟨X, ⟨fun _ => h, fun n => absurd (unhide GC) n⟩, rfl⟩)
  have qj := hide (V.joined_any at' lt ct T w1 L20 (unhide S1) (unhide HO) (unhide HSg1) (unhide HT1))
  have x1 := (unhide R1).at (o := 1) (v := .slice at' lt ct) rfl
  have zx := (unhide R1).lt
  go_wp2_with fail
  clear x1 zx
  refine (unhide qj).mono ?_
  rintro e w2 ⟨rfl, hb2⟩
  have R2 := hide ((unhide R1).keep hb2)
  have SG2 := hide ((unhide SG1).keep hb2)
  have B2 := hide (bTr (unhide B1) hb2)
  clear hb2 R1 SG1 B1 qj S1 HSg1 HT1
  go_upto_region 4 with fail
  have zT : ((⟨(V.linesL T).toArray⟩ : ByteArray)).size ≤ 10020 := by
    rw [lsz]
    have := V.linesL_len T (unhide HO)
    have := unhide HLL
    omega
  have EX := hide (show (⟨(V.linesL T).toArray⟩ : ByteArray).data.toList = V.linesL T by simp)
  have zl := hide (lsz (V.linesL T))
  have EC := hide (show capT id T G = (⟨#[99, 97, 112, 126]⟩ : ByteArray) ++ id ++ (⟨#[126]⟩ : ByteArray) ++ ⟨(arm (V.linesL T)).toArray⟩ ++ (⟨#[126]⟩ : ByteArray) ++ ⟨(arm G).toArray⟩ from rfl)
  have zAr : (⟨(arm (V.linesL T)).toArray⟩ : ByteArray).size ≤ 40000 := by rw [lsz, arm_len]; unfold many; have := unhide zl; omega
  have zAg : (⟨(arm G).toArray⟩ : ByteArray).size ≤ 100 := by rw [lsz, arm_len]; unfold many; have := unhide G16; omega
  generalize capT id T G = CT at TI EC
  generalize (⟨(V.linesL T).toArray⟩ : ByteArray) = TX at zT EX zl ⊢
  generalize V.linesL T = LL at EX zl EC zAr
  obtain ⟨cap4, w4, cv, hb4, hs4, hc4, hm4⟩ := conv_bytes2 TX (World.drew w2) (by omega)
  rw [unhide EX] at hs4
  replace hs4 : SlB w4 w4.heap.size (some ⟨w2.heap.size, 0, none⟩) TX.size LL := hs4
  have qA := hide (fun (h : SlB w4 w4.heap.size (some ⟨w2.heap.size, 0, none⟩) TX.size LL) => iArmor_any (some ⟨w2.heap.size, 0, none⟩) TX.size cap4 LL w4 (by unfold maxLen; omega) hc4 hm4 h)
  rw [show armD LL = arm LL from if_pos (by have := unhide zl; omega)] at qA
  have qB := hide (fun w (h : SlB w w.heap.size ag G.length G) => iArmor_any ag G.length cg G w (by have := unhide G16; unfold maxLen; omega) (unhide HC).1 (unhide HC).2 h)
  rw [show armD G = arm G from if_pos (by have := unhide G16; omega)] at qB
  have S4 := hide hs4
  have E4 := hide (undrewT hb4)
  clear hs4 hb4 hc4 hm4
  generalize (⟨(arm LL).toArray⟩ : ByteArray) = AR at qA EC zAr
  generalize (⟨(arm G).toArray⟩ : ByteArray) = AG at qB EC zAg
  refine wp_region_held_drew (S := fun w' => CapS w' w.heap.size id ag G.length cg) (by kernel_rfl) (capS ((unhide R2).keep (Below.refl _ _).drew)) (fun hHeld => ?_)
  refine takeD (i := 0) (v := .pointer (some ⟨w.heap.size, 0, none⟩)) (d := some 10) rfl (by kernel_rfl) (by kernel_rfl) (by kernel_rfl) (by kernel_rfl) (fun _ _ _ h => h) (.inl ⟨by kernel_rfl, fun w hSw => ?_⟩) (by assumption) ?_
  · obtain ⟨s0, s1⟩ := hSw
    go_simp
  try simp only [Act.put, List.setIfInBounds_toArray, List.set_cons_zero, List.set_cons_succ]
  refine takeD (i := 1) (v := .string id) (d := some 11) rfl (by kernel_rfl) (by kernel_rfl) (by kernel_rfl) (by kernel_rfl) (fun _ _ _ h => h) (.inl ⟨by kernel_rfl, fun w hSw => ?_⟩) (by assumption) ?_
  · obtain ⟨s0, s1⟩ := hSw
    go_simp
  try simp only [Act.put, List.setIfInBounds_toArray, List.set_cons_zero, List.set_cons_succ]
  refine takeD (i := 2) (v := .string TX) (d := some 12) rfl (by kernel_rfl) (by kernel_rfl) (by kernel_rfl) (by kernel_rfl) (fun _ _ _ h => h) (.inl ⟨by kernel_rfl, fun w hSw => ?_⟩) (by assumption) ?_
  · obtain ⟨s0, s1⟩ := hSw
    go_simp
  try simp only [Act.put, List.setIfInBounds_toArray, List.set_cons_zero, List.set_cons_succ]
  refine takeD (i := 5) (v := .pointer (some ⟨w.heap.size, 2, none⟩)) (d := some 15) rfl (by kernel_rfl) (by kernel_rfl) (by kernel_rfl) (by kernel_rfl) (fun _ _ _ h => h) (.inl ⟨by kernel_rfl, fun w hSw => ?_⟩) (by assumption) ?_
  · obtain ⟨s0, s1⟩ := hSw
    go_simp
  try simp only [Act.put, List.setIfInBounds_toArray, List.set_cons_zero, List.set_cons_succ]
  refine takeD (i := 6) (v := .slice ag G.length cg) (d := some 16) rfl (by kernel_rfl) (by kernel_rfl) (by kernel_rfl) (by kernel_rfl) (fun _ _ _ h => h) (.inl ⟨by kernel_rfl, fun w hSw => ?_⟩) (by assumption) ?_
  · obtain ⟨s0, s1⟩ := hSw
    go_simp
  try simp only [Act.put, List.setIfInBounds_toArray, List.set_cons_zero, List.set_cons_succ]
  refine wpAnyH_ready (rs := [3]) (by kernel_rfl) (by simp) ?_
  refine AllReadyH.cons (by rfl) (fun K hK => ?_) AllReadyH.nil
  go_simp
  try dsimp only
  refine hK.out _ _ (capS ((unhide R2).keep (unhide E4))) (fun hH4 => ?_)
  clear hK K hHeld
  try simp only [Act.put, List.setIfInBounds_toArray, List.set_cons_zero, List.set_cons_succ]
  refine wpAnyH_ready (rs := [4]) (by kernel_rfl) (by simp) ?_
  refine AllReadyH.cons (by rfl) (fun K hK => ?_) AllReadyH.nil
  go_simp
  refine (unhide qA (unhide S4)).mono ?_
  rintro e w5 ⟨rfl, hb5⟩
  have E5 := hide (bTr (unhide E4) hb5)
  clear hb5 hH4 qA S4 E4 cv
  try dsimp only
  refine hK.out _ _ (capS ((unhide R2).keep (unhide E5))) (fun hH5 => ?_)
  clear hK K
  try simp only [Act.put, List.setIfInBounds_toArray, List.set_cons_zero, List.set_cons_succ]
  refine wpAnyH_ready (rs := [7]) (by kernel_rfl) (by simp) ?_
  refine AllReadyH.cons (by rfl) (fun K hK => ?_) AllReadyH.nil
  go_simp
  refine (unhide qB _ (((unhide SG2).keep (unhide E5)).mono (Nat.le_trans (unhide B2).size (unhide E5).size))).mono ?_
  rintro e w6 ⟨rfl, hb6⟩
  have E6 := hide (bTr (unhide E5) hb6)
  clear hb6 hH5 qB E5
  try dsimp only
  refine hK.out _ _ (capS ((unhide R2).keep (unhide E6))) (fun hH6 => ?_)
  clear hK K
  try simp only [Act.put, List.setIfInBounds_toArray, List.set_cons_zero, List.set_cons_succ]
  refine wpAnyH_ready (rs := [8]) (by kernel_rfl) (by simp) ?_
  refine AllReadyH.cons (by rfl) (fun K hK => ?_) AllReadyH.nil
  go_simp
  obtain ⟨w7, hw7⟩ : ∃ W, W = w6.alloc (.cells #[.string ⟨#[99, 97, 112]⟩, .string id, .string AR, .string AG] 9) := ⟨_, rfl⟩
  have b7 : Below w6.heap.size w6 w7 := by rw [hw7]; exact bAl (Below.refl _ _) _
  have E7 := hide (bTr (unhide E6) b7)
  have qk := hide (show Calls Tryd.prog 20 #[.slice (some ⟨w6.heap.size, 0, none⟩) 4 4, .string ⟨#[126]⟩] w7 fun e w' => e = .returned (.string CT) ∧ Below w7.heap.size w7 w' from by
    have hx := Tryd.strings_Join w6.heap.size 0 4 [⟨#[99, 97, 112]⟩, id, AR, AG] ⟨#[126]⟩ w7 (fun j x hj => by
      rw [hw7]
      have R := RowIs.new w6 #[.string ⟨#[99, 97, 112]⟩, .string id, .string AR, .string AG] 9
      rw [Nat.zero_add]
      match j, hj with
      | 0, hj => simp at hj; subst hj; exact R.at rfl
      | 1, hj => simp at hj; subst hj; exact R.at rfl
      | 2, hj => simp at hj; subst hj; exact R.at rfl
      | 3, hj => simp at hj; subst hj; exact R.at rfl
      | n + 4, hj => simp at hj) (by rw [hw7]; simp) (by simp) (by simp) (by
        have l1 : id.data.toList.length = id.size := by show _ = id.data.size; simp
        have l2 : AR.data.toList.length = AR.size := by show _ = AR.data.size; simp
        have l3 : AG.data.toList.length = AG.size := by show _ = AG.data.size; simp
        simp [Lib.join, List.intercalate]
        omega)
    refine hx.mono ?_
    rintro e w' ⟨rfl, hb⟩
    refine ⟨?_, hb⟩
    congr 2
    rw [unhide EC]
    apply ByteArray.ext
    apply Array.toList_inj.1
    simp [Lib.join, List.intercalate, ByteArray.data_append])
  rw [← hw7]
  clear hw7 b7 hH6 E6
  try dsimp only
  refine hK.out _ _ (capS ((unhide R2).keep (unhide E7))) (fun hH7 => ?_)
  clear hK K
  try simp only [Act.put, List.setIfInBounds_toArray, List.set_cons_zero, List.set_cons_succ]
  refine wpAnyH_ready (rs := [9]) (by kernel_rfl) (by simp) ?_
  refine AllReadyH.cons (by rfl) (fun K hK => ?_) AllReadyH.nil
  go_simp
  refine (unhide qk).mono ?_
  rintro e w8 ⟨rfl, hb8⟩
  have E8 := hide (bTr (unhide E7) hb8)
  clear hb8 hH7 qk E7
  try dsimp only
  refine hK.out _ _ (capS ((unhide R2).keep (unhide E8))) (fun hH8 => ?_)
  clear hK K
  try simp only [Act.put, List.setIfInBounds_toArray, List.set_cons_zero, List.set_cons_succ]
  refine takeD (i := 10) (v := .string CT) (d := some 2) rfl (by kernel_rfl) (by kernel_rfl) (by kernel_rfl) (by kernel_rfl) (fun _ _ _ h => h) (.inl ⟨by kernel_rfl, fun w hSw => ?_⟩) (by assumption) ?_
  · obtain ⟨s0, s1⟩ := hSw
    go_simp
  try simp only [Act.put, List.setIfInBounds_toArray, List.set_cons_zero, List.set_cons_succ]
  refine wpAnyH_done (by kernel_rfl) ?_ _
  go_wp2_with fail
  go_ret
  exact ⟨unhide TI _ rfl, bTr (unhide B2) (unhide E8)⟩
end Go.Proofs.YtfdfglblcgdoiaaDoor.D
