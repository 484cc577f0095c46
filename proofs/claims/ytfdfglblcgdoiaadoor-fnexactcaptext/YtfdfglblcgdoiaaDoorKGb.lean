/- CapText: what it is; spec.CapText. -/
import Derived.Test.YtfdfglblcgdoiaaDoorKGa
import Derived.Test.YtfdfglblcgdoiaaDoorDArmJ
import Derived.Deep.RegionHeld3
import Derived.Deep.AppendLies
namespace Go.Proofs.YtfdfglblcgdoiaaDoor.V
open Go.RowKit
theorem quo_402 (t : ByteArray) (h : t.size ≤ 200) : (quo t.data.toList).length ≤ 402 := by
  have h2 : ∀ l : List UInt8, (qs l).length ≤ 2 * l.length := by
    intro l
    induction l with
    | nil => simp [qs]
    | cons c l ih =>
      have : qs (c :: l) = qb c ++ qs l := by simp [qs]
      rw [this, List.length_append, List.length_cons]
      have : (qb c).length ≤ 2 := by unfold qb; split <;> simp
      omega
  have := h2 t.data.toList
  have l1 : t.data.toList.length = t.size := by simp
  unfold quo
  simp only [List.length_cons, List.length_append, List.length_nil]
  omega
theorem atomL_402 {k n : Int} {t ty : ByteArray} (h8 : -9223372036854775808 ≤ n) (h9 : n ≤ 9223372036854775807) (hg : goodAtom k n t ty = true) (h4 : k ≠ 4) : (atomL k n t ty).length ≤ 402 := by
  have hi := Lib.itoa_length_le n h8 h9
  have hd := dig_len n h8 h9
  unfold atomL
  split
  · split <;> decide
  split
  · rename_i _ h3; exact quo_402 t (good_text hg (.inl h3))
  split
  · unfold decL dotL
    have p := padL_len (Lib.decDigits n.natAbs)
    simp only [List.length_append, List.length_cons, List.length_take, List.length_drop]
    split
    all_goals simp only [List.length_cons, List.length_nil]; omega
  split
  · rename_i _ _ _ h6
    subst h6
    obtain ⟨a0, a1, a2⟩ := good_addr hg
    have f : ∀ x ∈ (four (n / 64)).map Lib.itoa, x.length ≤ 21 := by
      intro x hx
      obtain ⟨m, hm, rfl⟩ := List.mem_map.1 hx
      simp only [four, List.mem_cons, List.not_mem_nil, or_false] at hm
      rcases hm with rfl | rfl | rfl | rfl <;> exact Lib.itoa_length_le _ (by omega) (by omega)
    have j := inter_len 21 _ f
    have z := Lib.itoa_length_le (n % 64) (by omega) (by omega)
    unfold blkL
    simp only [List.length_append, List.length_cons]
    simp only [List.length_map, four, List.length_cons, List.length_nil] at j ⊢
    omega
  split
  · simp only [List.length_cons]; omega
  · omega
theorem opC_kind {o k : Int} (h : opC o k = true) : k ≠ 4 := by
  intro e
  subst e
  simp [opC] at h
theorem termX_le (x : CavTermT) (ok : x.Ok) : (termX x).size ≤ 500 := by
  unfold termX
  split
  · rename_i h
    unfold termB at h
    simp only [Bool.and_eq_true] at h
    obtain ⟨⟨⟨g0, g1⟩, g2⟩, g3⟩ := h
    have h1 := goodName_le g0
    have h2 := sgn_size x.f1
    have h3 := atomL_402 ok.n8 ok.n9 g2 (opC_kind g3)
    unfold termL sp1
    rw [ByteArray.size_append, ByteArray.size_append, ByteArray.size_append, ByteArray.size_append]
    have h4 : (⟨(atomL x.f3 x.f4 x.f5 x.f6).toArray⟩ : ByteArray).size = (atomL x.f3 x.f4 x.f5 x.f6).length := by show (List.toArray _).size = _; simp
    have h5 : (⟨#[32]⟩ : ByteArray).size = 1 := rfl
    omega
  · show (0 : Nat) ≤ _; omega
/-- The terms, a row each. -/
def lineL (x : CavTermT) : List UInt8 := (termX x).data.toList ++ [10]
def linesL (T : List CavTermT) : List UInt8 := T.flatMap lineL
theorem linesL_len : ∀ (T : List CavTermT), (∀ x ∈ T, x.Ok) → (linesL T).length ≤ 501 * T.length
  | [], _ => by simp [linesL]
  | x :: T, h => by
    have ih := linesL_len T (fun y hy => h y (List.mem_cons_of_mem _ hy))
    have h1 := termX_le x (h x (by simp))
    have h2 : (termX x).data.toList.length = (termX x).size := by show _ = (termX x).data.size; simp
    have e : linesL (x :: T) = lineL x ++ linesL T := by simp [linesL]
    rw [e, List.length_append]
    unfold lineL
    rw [List.length_append, h2, List.length_cons, List.length_cons, List.length_nil]
    omega
theorem linesL_snoc (T : List CavTermT) (x : CavTermT) : linesL (T ++ [x]) = linesL T ++ lineL x := by simp [linesL]
end Go.Proofs.YtfdfglblcgdoiaaDoor.V
namespace Go.Proofs.YtfdfglblcgdoiaaDoor.D
open Go.RowKit
set_option maxRecDepth 20000

def capT (id : ByteArray) (T : List V.CavTermT) (G : List UInt8) : ByteArray := (⟨#[99, 97, 112, 126]⟩ : ByteArray) ++ id ++ (⟨#[126]⟩ : ByteArray) ++ ⟨(arm (V.linesL T)).toArray⟩ ++ (⟨#[126]⟩ : ByteArray) ++ ⟨(arm G).toArray⟩
structure TxIs (id : ByteArray) (T : List V.CavTermT) (G : List UInt8) (X : ByteArray) : Prop where
  yes : V.GoodC id T G.length → X = capT id T G
  no : ¬ V.GoodC id T G.length → X = ⟨#[]⟩
theorem TxIs.uniq {id : ByteArray} {T : List V.CavTermT} {G : List UInt8} {X X' : ByteArray} (h : TxIs id T G X) (h' : TxIs id T G X') : X = X' := by
  by_cases g : V.GoodC id T G.length
  · rw [h.yes g, h'.yes g]
  · rw [h.no g, h'.no g]
def TxRet (id : ByteArray) (T : List V.CavTermT) (G : List UInt8) (e : Ending) : Prop := ∃ X, TxIs id T G X ∧ e = .returned (.string X)
theorem lsz (l : List UInt8) : (⟨l.toArray⟩ : ByteArray).size = l.length := by show l.toArray.size = _; simp
theorem idB_le {s : ByteArray} (h : idB s = true) : s.size ≤ 40 := by
  rcases Nat.lt_or_ge 40 s.size with h2 | h2
  · rw [idB_size (.inr h2)] at h; cases h
  · exact h2
theorem conv_bytes2 (s : ByteArray) (w : World) (hs : s.size ≤ 1000000) : ∃ cap w1, (convert 9 23 (.string s)).run Tryd.prog w = .ok (.slice (some ⟨w.heap.size, 0, none⟩) s.size cap) w1 ∧ Below w.heap.size w w1 ∧ SlB w1 w1.heap.size (some ⟨w.heap.size, 0, none⟩) s.size s.data.toList ∧ s.size ≤ cap ∧ cap ≤ maxLen := by
  refine ⟨_, _, run_bytes_of_string (P := Tryd.prog) w 9 23 5 s Tryd.underlying9 Tryd.underlying23 Tryd.underlying5, ((Below.refl _ _).drew).alloc (Nat.le_refl _) _, ?_, grownCap_ge _ _ _ _, grownCap_le_maxLen _ _ _ _ (by unfold maxLen; omega)⟩
  have e : s.size = s.data.toList.length := by show s.data.size = _; simp
  refine ⟨e, .inr ⟨_, 0, rfl, by simp, by simp, ?_⟩⟩
  intro j h
  have h' : w.drew.heap.size = w.heap.size := rfl
  have h2 : j < s.data.size := by simpa using h
  rw [← h', Nat.zero_add, World.cell?_alloc_mark]
  unfold bytesRow
  rw [Array.getElem?_append_left (by simpa using h2)]
  simp only [Array.getElem?_map, Array.getElem?_eq_getElem h2, Option.map_some]
  rfl
theorem takeD {P : Program} {ops : Array Oper} {Q : Exit → Act → World → Prop} {md : Region.Mode} {S : World → Prop} {i : Nat} {oi : Oper} {v : Value} {d : Option Tmp} {fuel : Nat} {listed : Array Bool} {a : Act} {w : World} (hi : ops[i]? = some oi) (hd : oi.dst = d)
    (hs : Region.noSelect ops = true) (hf : Region.free md ops listed i = true) (hr : (Region.ready md ops listed).contains i = true)
    (hQ : ∀ c a w, Q (.panic c) (a.put oi.dst v) w → Q (.panic c) a w) (hy : YieldsIf P ops S oi v a) (hS : S w)
    (h : wpAnyH P md ops Q S fuel (listed.setIfInBounds i true) (a.put d v) w) : wpAnyH P md ops Q S (fuel + 1) listed a w := by
  subst hd
  exact wpAnyH_take hi hs hf hr hQ hy hS h
theorem undrewT {w w' : World} (h : Below w.drew.heap.size w.drew w') : Below w.heap.size w w' := bTr ((Below.refl _ _).drew) h
abbrev CapS (w : World) (b : Nat) (id : ByteArray) (ag : Option Addr) (lg cg : Nat) : Prop := w.cell? ⟨b, 0, none⟩ = some (.string id) ∧ w.cell? ⟨b, 2, none⟩ = some (.slice ag lg cg)
theorem capS {w' : World} {b : Nat} {id : ByteArray} {at' ag : Option Addr} {lt ct lg cg : Nat} (h : RowIs w' b (V.capC id at' ag lt ct lg cg) 30) : CapS w' b id ag lg cg := ⟨h.at rfl, h.at rfl⟩
set_option maxHeartbeats 8000000 in
theorem sCapText_any (id : ByteArray) (at' ag : Option Addr) (lt ct cg : Nat) (T : List V.CavTermT) (G : List UInt8) (w : World) (hid : id.size ≤ maxLen) (hl : lt ≤ 1048576) (hs : V.SlCavTerm w at' lt T) (ok : ∀ q ∈ T, V.CavTermT.Ok q) (hg : SlB w w.heap.size ag G.length G) :
    Calls Tryd.prog 5 #[V.capV id at' ag lt ct G.length cg] w fun e w' => TxRet id T G e ∧ Below w.heap.size w w' := by
  obtain ⟨W, hW⟩ : ∃ W, W = w.alloc (.cells (V.capC id at' ag lt ct G.length cg) 30) := ⟨_, rfl⟩
  have B := hide (show Below w.heap.size w W by rw [hW]; exact bAl (Below.refl _ _) _)
  have R := hide (show RowIs W w.heap.size (V.capC id at' ag lt ct G.length cg) 30 by rw [hW]; exact RowIs.new _ _ _)
  have S := hide (hs.keep (unhide B))
  have SG := hide (hg.keep (unhide B))
  have HW := hide hW.symm
  have HLL := hide hs.1
  have HO := hide ok
  have q0 := hide (fun w (hs : V.SlCavTerm w at' lt T) => V.l17Good_any id at' ag lt ct G.length cg T w hid hl hs ok)
  clear hW hs hid hl ok hg
  have x0 := (unhide R).at (o := 0) (v := .string id) rfl
  have x1 := (unhide R).at (o := 1) (v := .slice at' lt ct) rfl
  have x2 := (unhide R).at (o := 2) (v := .slice ag G.length cg) rfl
  have zx := (unhide R).lt
  go_enter Tryd.func5, Tryd.ntmps5
  go_upto_region 1 with fail
  rw [unhide HW]
  go_wp2_with fail
  refine (unhide q0 _ (unhide S)).mono ?_
  rintro e w1 ⟨⟨b, rfl, hb⟩, hb1⟩
  have HB := hide hb
  have B1 := hide (bTr (unhide B) hb1)
  have R1 := hide ((unhide R).keep hb1)
  have S1 := hide ((unhide S).keep hb1)
  have SG1 := hide ((unhide SG).keep hb1)
  clear hb hb1 B R S SG q0 HW x0 x1 x2 zx
  cases b
  · go_wp2_with fail
    go_ret
    exact ⟨⟨_, ⟨fun h => absurd ((unhide HB).2 h) (by simp), fun _ => rfl⟩, rfl⟩, unhide B1⟩
  have GC := hide ((unhide HB).1 (by trivial))
  clear HB
  have zid := idB_le (unhide GC).1
  have L20 : lt ≤ 20 := by have h1 := (unhide GC).2.1.1; have h2 := unhide HLL; omega
  have G16 := hide (unhide GC).2.2
  have TI := hide (fun X (h : X = capT id T G) => show TxRet id T G (.returned (.string X)) from ⟨X, ⟨fun _ => h, fun n => absurd (unhide GC) n⟩, rfl⟩)
  have x1 := (unhide R1).at (o := 1) (v := .slice at' lt ct) rfl
  have zx := (unhide R1).lt
  go_wp2_with fail
  clear x1 zx
  go_loopw [3, 12] (fun s i w' => ∃ k : Nat, k ≤ lt ∧ i = .int .i64 k ∧ s = .string ⟨(V.linesL (T.take k)).toArray⟩ ∧ Hid (Below w1.heap.size w1 w')) (fun _ i _ => lt - (Go.RowKit.intOf i).toNat)
  case atStart => exact ⟨0, Nat.zero_le _, rfl, rfl, hide (Below.refl _ _)⟩
  case round =>
    obtain ⟨k, hk, rfl, rfl, hb⟩ := hrel
    have zT : ((⟨(V.linesL (T.take k)).toArray⟩ : ByteArray)).size ≤ 10020 := by
      rw [lsz]
      have := V.linesL_len (T.take k) (fun x hx => unhide HO x (List.mem_of_mem_take hx))
      have h2 : (T.take k).length ≤ k := by simp; omega
      omega
    by_cases hlt : k < lt
    · have hk' : k < T.length := by have := unhide HLL; omega
      obtain ⟨bb_, off, e0, hrow⟩ := ((unhide S1).keep (unhide hb)).at hlt
      subst e0
      have c0 := hrow.c0 k hk'
      have c1 := hrow.c1 k hk'
      have c2 := hrow.c2 k hk'
      have c3 := hrow.c3 k hk'
      have c4 := hrow.c4 k hk'
      have c5 := hrow.c5 k hk'
      have c6 := hrow.c6 k hk'
      have zk := hrow.z
      have q := hide (fun w => V.sTermText_any T[k] w (unhide HO _ (List.getElem_mem hk')))
      have zX := V.termX_le T[k] (unhide HO _ (List.getElem_mem hk'))
      have ST := hide (show (⟨(V.linesL (T.take (k + 1))).toArray⟩ : ByteArray) = (⟨(V.linesL (T.take k)).toArray⟩ : ByteArray) ++ (V.termX T[k] ++ (⟨#[10]⟩ : ByteArray)) by
        rw [List.take_succ_eq_append_getElem hk', V.linesL_snoc]
        apply ByteArray.ext
        apply Array.toList_inj.1
        simp [ByteArray.data_append, V.lineL])
      clear hrow
      generalize V.termX T[k] = X at q zX ST
      generalize (⟨(V.linesL (T.take k)).toArray⟩ : ByteArray) = SS at zT ST ⊢
      generalize T[k] = A at *
      obtain ⟨W2, hW2⟩ : ∃ W2, W2 = wr.alloc (.cells #[.string A.f0, .int .i64 A.f1, .string A.f2, .int .i64 A.f3, .int .i64 A.f4, .string A.f5, .string A.f6] 40) := ⟨_, rfl⟩
      have bW := hide (show Below wr.heap.size wr W2 by rw [hW2]; exact bAl (Below.refl _ _) _)
      have R2 := show RowIs W2 wr.heap.size #[.string A.f0, .int .i64 A.f1, .string A.f2, .int .i64 A.f3, .int .i64 A.f4, .string A.f5, .string A.f6] 40 by rw [hW2]; exact RowIs.new _ _ _
      have HW2 := hide hW2.symm
      have x0 := R2.at (o := 0) (v := .string A.f0) rfl
      have x1 := R2.at (o := 1) (v := .int .i64 A.f1) rfl
      have x2 := R2.at (o := 2) (v := .string A.f2) rfl
      have x3 := R2.at (o := 3) (v := .int .i64 A.f3) rfl
      have x4 := R2.at (o := 4) (v := .int .i64 A.f4) rfl
      have x5 := R2.at (o := 5) (v := .string A.f5) rfl
      have x6 := R2.at (o := 6) (v := .string A.f6) rfl
      have zx := R2.lt
      have k1 : ¬ 9223372036854775806 < X.size := by omega
      have k2 : ¬ 9223372036854775807 < SS.size + (X.size + 1) := by omega
      have k3 : ¬ 9223372036854775807 < SS.size + X.size + 1 := by omega
      clear hW2 R2
      go_upto_region 7 with fail
      rw [unhide HW2]
      clear HW2 c0 c1 c2 c3 c4 c5 c6 zk
      go_wp2_with fail
      refine (unhide q _).mono ?_
      rintro e w3 ⟨rfl, hb3⟩
      have B3 := hide (bTr (unhide hb) (bTr (unhide bW) hb3))
      clear hb3 bW hb q x0 x1 x2 x3 x4 x5 x6 zx
      go_wp2_with fail
      exact ⟨⟨k + 1, by omega, by go_num, by rw [unhide ST], B3⟩, by simp [Go.RowKit.intOf]; omega⟩
    · have eT : T.take k = T := List.take_of_length_le (by have := unhide HLL; omega)
      rw [eT] at zT ⊢
      clear eT
      have R2 := hide ((unhide R1).keep (unhide hb))
      have SG2 := hide ((unhide SG1).keep (unhide hb))
      have B2 := hide (bTr (unhide B1) (unhide hb))
      have eX : (⟨(V.linesL T).toArray⟩ : ByteArray).data.toList = V.linesL T := by simp
      have EX := hide eX
      have zl := lsz (V.linesL T)
      have EC := hide (show capT id T G = (⟨#[99, 97, 112, 126]⟩ : ByteArray) ++ id ++ (⟨#[126]⟩ : ByteArray) ++ ⟨(arm (V.linesL T)).toArray⟩ ++ (⟨#[126]⟩ : ByteArray) ++ ⟨(arm G).toArray⟩ from rfl)
      have zAr : (⟨(arm (V.linesL T)).toArray⟩ : ByteArray).size ≤ 40000 := by rw [lsz, arm_len]; unfold many; omega
      have zAg : (⟨(arm G).toArray⟩ : ByteArray).size ≤ 100 := by rw [lsz, arm_len]; unfold many; have := unhide G16; omega
      clear R1 SG1 B1 hb S1 eX
      generalize capT id T G = CT at TI EC
      generalize (⟨(V.linesL T).toArray⟩ : ByteArray) = TX at zT EX zl ⊢
      generalize V.linesL T = LL at EX zl EC zAr
      obtain ⟨cap4, w4, cv, hb4, hs4, _, _⟩ := conv_bytes2 TX (World.drew wr) (by omega)
      rw [unhide EX] at hs4
      replace hs4 : SlB w4 w4.heap.size (some ⟨wr.heap.size, 0, none⟩) TX.size LL := hs4
      have qA := hide (fun (h : SlB w4 w4.heap.size (some ⟨wr.heap.size, 0, none⟩) TX.size LL) => l2Armor_any (some ⟨wr.heap.size, 0, none⟩) TX.size cap4 LL w4 (by omega) h)
      have qB := hide (fun w (h : SlB w w.heap.size ag G.length G) => l2Armor_any ag G.length cg G w (by have := unhide G16; omega) h)
      have S4 := hide hs4
      have E4 := hide (undrewT hb4)
      clear hs4 hb4 zl
      generalize (⟨(arm LL).toArray⟩ : ByteArray) = AR at qA EC zAr
      generalize (⟨(arm G).toArray⟩ : ByteArray) = AG at qB EC zAg
      have z126 : (⟨#[126]⟩ : ByteArray).size = 1 := rfl
      have zcap : (⟨#[99, 97, 112, 126]⟩ : ByteArray).size = 4 := rfl
      go_upto_region 9 with fail
      refine wp_region_held_drew (S := fun w' => CapS w' w.heap.size id ag G.length cg) (by kernel_rfl) (capS ((unhide R2).keep (Below.refl _ _).drew)) (fun hHeld => ?_)
      refine takeD (i := 0) (v := .pointer (some ⟨w.heap.size, 0, none⟩)) (d := some 22) rfl (by kernel_rfl) (by kernel_rfl) (by kernel_rfl) (by kernel_rfl) (fun _ _ _ h => h) (.inl ⟨by kernel_rfl, fun w hSw => ?_⟩) (by assumption) ?_
      · obtain ⟨s0, s1⟩ := hSw
        go_simp
        all_goals ((try simp only [ByteArray.size_append, z126, zcap]); omega)
      try simp only [Act.put, List.setIfInBounds_toArray, List.set_cons_zero, List.set_cons_succ]
      refine takeD (i := 1) (v := .string id) (d := some 23) rfl (by kernel_rfl) (by kernel_rfl) (by kernel_rfl) (by kernel_rfl) (fun _ _ _ h => h) (.inl ⟨by kernel_rfl, fun w hSw => ?_⟩) (by assumption) ?_
      · obtain ⟨s0, s1⟩ := hSw
        go_simp
        all_goals ((try simp only [ByteArray.size_append, z126, zcap]); omega)
      try simp only [Act.put, List.setIfInBounds_toArray, List.set_cons_zero, List.set_cons_succ]
      refine takeD (i := 2) (v := .string ((⟨#[99, 97, 112, 126]⟩ : ByteArray) ++ id)) (d := some 24) rfl (by kernel_rfl) (by kernel_rfl) (by kernel_rfl) (by kernel_rfl) (fun _ _ _ h => h) (.inl ⟨by kernel_rfl, fun w hSw => ?_⟩) (by assumption) ?_
      · obtain ⟨s0, s1⟩ := hSw
        go_simp
        all_goals ((try simp only [ByteArray.size_append, z126, zcap]); omega)
      try simp only [Act.put, List.setIfInBounds_toArray, List.set_cons_zero, List.set_cons_succ]
      refine takeD (i := 3) (v := .string ((⟨#[99, 97, 112, 126]⟩ : ByteArray) ++ id ++ (⟨#[126]⟩ : ByteArray))) (d := some 25) rfl (by kernel_rfl) (by kernel_rfl) (by kernel_rfl) (by kernel_rfl) (fun _ _ _ h => h) (.inl ⟨by kernel_rfl, fun w hSw => ?_⟩) (by assumption) ?_
      · obtain ⟨s0, s1⟩ := hSw
        go_simp
        all_goals ((try simp only [ByteArray.size_append, z126, zcap]); omega)
      try simp only [Act.put, List.setIfInBounds_toArray, List.set_cons_zero, List.set_cons_succ]
      refine takeD (i := 4) (v := .string TX) (d := some 26) rfl (by kernel_rfl) (by kernel_rfl) (by kernel_rfl) (by kernel_rfl) (fun _ _ _ h => h) (.inl ⟨by kernel_rfl, fun w hSw => ?_⟩) (by assumption) ?_
      · obtain ⟨s0, s1⟩ := hSw
        go_simp
        all_goals ((try simp only [ByteArray.size_append, z126, zcap]); omega)
      try simp only [Act.put, List.setIfInBounds_toArray, List.set_cons_zero, List.set_cons_succ]
      refine takeD (i := 9) (v := .pointer (some ⟨w.heap.size, 2, none⟩)) (d := some 31) rfl (by kernel_rfl) (by kernel_rfl) (by kernel_rfl) (by kernel_rfl) (fun _ _ _ h => h) (.inl ⟨by kernel_rfl, fun w hSw => ?_⟩) (by assumption) ?_
      · obtain ⟨s0, s1⟩ := hSw
        go_simp
        all_goals ((try simp only [ByteArray.size_append, z126, zcap]); omega)
      try simp only [Act.put, List.setIfInBounds_toArray, List.set_cons_zero, List.set_cons_succ]
      refine takeD (i := 10) (v := .slice ag G.length cg) (d := some 32) rfl (by kernel_rfl) (by kernel_rfl) (by kernel_rfl) (by kernel_rfl) (fun _ _ _ h => h) (.inl ⟨by kernel_rfl, fun w hSw => ?_⟩) (by assumption) ?_
      · obtain ⟨s0, s1⟩ := hSw
        go_simp
        all_goals ((try simp only [ByteArray.size_append, z126, zcap]); omega)
      try simp only [Act.put, List.setIfInBounds_toArray, List.set_cons_zero, List.set_cons_succ]
      refine wpAnyH_ready (rs := [5]) (by kernel_rfl) (by simp) ?_
      refine AllReadyH.cons (by rfl) (fun K hK => ?_) AllReadyH.nil
      go_simp
      try dsimp only
      refine hK.out _ _ (capS ((unhide R2).keep (unhide E4))) (fun hH4 => ?_)
      clear hK K hHeld
      try simp only [Act.put, List.setIfInBounds_toArray, List.set_cons_zero, List.set_cons_succ]
      refine wpAnyH_ready (rs := [6]) (by kernel_rfl) (by simp) ?_
      refine AllReadyH.cons (by rfl) (fun K hK => ?_) AllReadyH.nil
      go_simp
      refine (unhide qA (unhide S4)).mono ?_
      rintro e w5 ⟨rfl, hb5⟩
      have E5 := hide (bTr (unhide E4) hb5)
      clear hb5 hH4 qA S4 E4 cv
      try dsimp only
      refine hK.out _ _ (capS ((unhide R2).keep (unhide E5))) (fun hH5 => ?_)
      clear hK K
      try simp only [Act.put, List.setIfInBounds_toArray, List.set_cons_zero, List.set_cons_succ]
      refine takeD (i := 7) (v := .string ((⟨#[99, 97, 112, 126]⟩ : ByteArray) ++ id ++ (⟨#[126]⟩ : ByteArray) ++ AR)) (d := some 29) rfl (by kernel_rfl) (by kernel_rfl) (by kernel_rfl) (by kernel_rfl) (fun _ _ _ h => h) (.inl ⟨by kernel_rfl, fun w hSw => ?_⟩) (by assumption) ?_
      · obtain ⟨s0, s1⟩ := hSw
        go_simp
        all_goals ((try simp only [ByteArray.size_append, z126, zcap]); omega)
      try simp only [Act.put, List.setIfInBounds_toArray, List.set_cons_zero, List.set_cons_succ]
      refine takeD (i := 8) (v := .string ((⟨#[99, 97, 112, 126]⟩ : ByteArray) ++ id ++ (⟨#[126]⟩ : ByteArray) ++ AR ++ (⟨#[126]⟩ : ByteArray))) (d := some 30) rfl (by kernel_rfl) (by kernel_rfl) (by kernel_rfl) (by kernel_rfl) (fun _ _ _ h => h) (.inl ⟨by kernel_rfl, fun w hSw => ?_⟩) (by assumption) ?_
      · obtain ⟨s0, s1⟩ := hSw
        go_simp
        all_goals ((try simp only [ByteArray.size_append, z126, zcap]); omega)
      try simp only [Act.put, List.setIfInBounds_toArray, List.set_cons_zero, List.set_cons_succ]
      refine wpAnyH_ready (rs := [11]) (by kernel_rfl) (by simp) ?_
      refine AllReadyH.cons (by rfl) (fun K hK => ?_) AllReadyH.nil
      go_simp
      refine (unhide qB _ (((unhide SG2).keep (unhide E5)).mono (Nat.le_trans (unhide B2).size (unhide E5).size))).mono ?_
      rintro e w6 ⟨rfl, hb6⟩
      have E6 := hide (bTr (unhide E5) hb6)
      clear hb6 hH5 qB E5
      try dsimp only
      refine hK.out _ _ (capS ((unhide R2).keep (unhide E6))) (fun hH6 => ?_)
      clear hK K
      try simp only [Act.put, List.setIfInBounds_toArray, List.set_cons_zero, List.set_cons_succ]
      refine takeD (i := 12) (v := .string ((⟨#[99, 97, 112, 126]⟩ : ByteArray) ++ id ++ (⟨#[126]⟩ : ByteArray) ++ AR ++ (⟨#[126]⟩ : ByteArray) ++ AG)) (d := some 34) rfl (by kernel_rfl) (by kernel_rfl) (by kernel_rfl) (by kernel_rfl) (fun _ _ _ h => h) (.inl ⟨by kernel_rfl, fun w hSw => ?_⟩) (by assumption) ?_
      · obtain ⟨s0, s1⟩ := hSw
        go_simp
        all_goals ((try simp only [ByteArray.size_append, z126, zcap]); omega)
      try simp only [Act.put, List.setIfInBounds_toArray, List.set_cons_zero, List.set_cons_succ]
      refine takeD (i := 13) (v := .string ((⟨#[99, 97, 112, 126]⟩ : ByteArray) ++ id ++ (⟨#[126]⟩ : ByteArray) ++ AR ++ (⟨#[126]⟩ : ByteArray) ++ AG)) (d := some 2) rfl (by kernel_rfl) (by kernel_rfl) (by kernel_rfl) (by kernel_rfl) (fun _ _ _ h => h) (.inl ⟨by kernel_rfl, fun w hSw => ?_⟩) (by assumption) ?_
      · obtain ⟨s0, s1⟩ := hSw
        go_simp
        all_goals ((try simp only [ByteArray.size_append, z126, zcap]); omega)
      try simp only [Act.put, List.setIfInBounds_toArray, List.set_cons_zero, List.set_cons_succ]
      refine wpAnyH_done (by kernel_rfl) ?_ _
      go_wp2_with fail
      go_ret
      exact ⟨unhide TI _ (unhide EC).symm, bTr (unhide B2) (unhide E6)⟩
end Go.Proofs.YtfdfglblcgdoiaaDoor.D
