/- impl.goodAttr, impl.rising of attributes. -/
import Derived.Test.YthmjefmljcdpcaaQCmp
import Derived.Test.YthmjefmljcdpcaaQEnt2
import Derived.Test.YthmjefmljcdpcaaQDir
namespace Go.Proofs.Ythmjefmljcdpcaa
open Go.RowKit

def txtB (v : ByteArray) : Bool := decide (1 ≤ v.size) && (decide (v.size ≤ 200) && textL v)
def AttrG (A : AttrT) : Prop := goodName A.n = true ∧ (1 ≤ A.vs.length ∧ A.vs.length ≤ 30) ∧ A.vs.all txtB = true ∧ RisN A.vs A.vs.length
theorem strs_snoc {l : List ByteArray} {k : Nat} (h : k < l.length) (f : ByteArray → Bool) : (l.take (k + 1)).all f = ((l.take k).all f && f l[k]) := by
  rw [List.take_succ_eq_append_getElem h, List.all_append]; simp
theorem strs_no {l : List ByteArray} {k : Nat} (h : k < l.length) {f : ByteArray → Bool} (hf : f l[k] = false) : l.all f = false := by
  rw [List.all_eq_false]; exact ⟨l[k], List.getElem_mem h, by simp [hf]⟩
def RisM (m : List AttrT) (k : Nat) : Prop := ∀ i (h : i < m.length), 0 < i → i < k → cmpT m[i - 1].n.data.toList m[i].n.data.toList < 0
theorem RisM.step {l : List AttrT} {k : Nat} (h : RisM l k) (hk : k < l.length) (g : 0 < k → cmpT l[k - 1].n.data.toList l[k].n.data.toList < 0) : RisM l (k + 1) := by
  intro i hi h0 hik
  rcases Nat.lt_or_ge i k with h1 | h1
  · exact h i hi h0 h1
  · obtain rfl : i = k := by omega
    exact g h0

set_option maxHeartbeats 1000000 in
theorem goodAttr_any (A : AttrT) (a : Option Addr) (len cap : Nat) (w : World) (ho : A.Ok) (hs : SlS w a len A.vs) :
    Calls Try.prog 60 #[.agg #[.string A.n, .slice a len cap]] w fun e w' => RetB e (AttrG A) ∧ Below w.heap.size w w' := by
  have q1 := hide (fun w => iGoodName_any A.n ho.n9 w)
  have hll := hide hs.1
  have hlm : len ≤ 9223372036854775807 := by have := ho.l9; rw [← hs.1] at this; unfold maxLen at this; omega
  have B := hide (bAl (Below.refl w.heap.size w) (.cells #[.string A.n, .slice a len cap] 98))
  have R := hide (RowIs.new w #[.string A.n, .slice a len cap] 98)
  have HS := hide (hs.keep (unhide B))
  have HV := hide ho.v9
  have hG : Hid (AttrG A ↔ (goodName A.n = true ∧ (1 ≤ len ∧ len ≤ 30) ∧ A.vs.all txtB = true ∧ RisN A.vs A.vs.length)) := hide (by unfold AttrG; rw [hs.1])
  generalize AttrG A = G at hG
  obtain ⟨n, vs⟩ := A
  simp only at q1 hll B R HS HV hG ⊢
  clear ho hs
  generalize goodName n = T1 at q1 hG
  cases T1
  · have no : Hid (¬ G) := hide (fun h => by have := ((unhide hG).1 h).1; cases this)
    go_enter Try.func60, Try.ntmps60
    go_wp2_with fail
    refine (unhide q1 _).mono ?_
    rintro e w1 ⟨rfl, hb⟩
    go_wp2_with fail
    go_ret
    exact ⟨retB ⟨fun h => (by cases h), fun h => absurd h (unhide no)⟩, bTr (unhide B) hb⟩
  by_cases h1 : len < 1
  · have no : Hid (¬ G) := hide (fun h => by have := ((unhide hG).1 h).2.1; omega)
    obtain rfl : len = 0 := by omega
    go_enter Try.func60, Try.ntmps60
    go_wp2_with fail
    refine (unhide q1 _).mono ?_
    rintro e w1 ⟨rfl, hb⟩
    have e1 := ((unhide R).keep hb).at (o := 1) (v := .slice a 0 cap) rfl
    go_wp2_with fail
    go_ret
    exact ⟨retB ⟨fun h => (by cases h), fun h => absurd h (unhide no)⟩, bTr (unhide B) hb⟩
  by_cases h2 : 30 < len
  · have no : Hid (¬ G) := hide (fun h => by have := ((unhide hG).1 h).2.1; omega)
    have d1 : decide ((len : Int) < 1) = false := by simp; omega
    have d2 : decide (30 < (len : Int)) = true := by simp; omega
    go_enter Try.func60, Try.ntmps60
    go_wp2_with fail
    refine (unhide q1 _).mono ?_
    rintro e w1 ⟨rfl, hb⟩
    have e1 := ((unhide R).keep hb).at (o := 1) (v := .slice a len cap) rfl
    go_wp2_with fail
    go_ret
    exact ⟨retB ⟨fun h => (by cases h), fun h => absurd h (unhide no)⟩, bTr (unhide B) hb⟩
  have d1 : decide ((len : Int) < 1) = false := by simp; omega
  have d2 : decide (30 < (len : Int)) = false := by simp; omega
  replace hG : Hid (G ↔ (vs.all txtB = true ∧ RisN vs vs.length)) := hide ⟨fun h => ((unhide hG).1 h).2.2, fun h => (unhide hG).2 ⟨rfl, by omega, h⟩⟩
  go_enter Try.func60, Try.ntmps60
  go_wp2_with fail
  refine (unhide q1 _).mono ?_
  rintro e w1 ⟨rfl, hb⟩
  replace R := hide ((unhide R).keep hb)
  replace HS := hide ((unhide HS).keep hb)
  replace B := hide (bTr (unhide B) hb)
  clear hb q1
  have e1 := (unhide R).at (o := 1) (v := .slice a len cap) rfl
  go_wp2_with fail
  clear e1
  go_loopw [24] (fun i w' => ∃ (k : Nat), k ≤ len ∧ i = .int .i64 k ∧ Hid ((vs.take k).all txtB = true) ∧ Hid (Below w1.heap.size w1 w')) (fun i _ => len - (intOf i).toNat)
  case atStart => exact ⟨0, Nat.zero_le _, rfl, hide rfl, hide (Below.refl _ _)⟩
  case round =>
    obtain ⟨k, hk, rfl, ha, hb⟩ := hrel
    by_cases hlt : k < len
    · obtain ⟨b, off, rfl, hrow⟩ := ((unhide HS).keep (unhide hb)).at hlt
      have hk' : k < vs.length := by rw [← unhide hll]; exact hlt
      have c0 := hrow.c k hk'
      have hv := unhide HV _ (List.getElem_mem hk')
      have qo : Hid (∀ w, Calls Try.prog 68 #[.string (vs[k]'hk')] w fun e w' => e = .returned (.bool (txtB (vs[k]'hk'))) ∧ Below w.heap.size w w') := hide (fun w => oneOrMore_any _ hv w)
      have eT := hide (strs_snoc hk' txtB)
      have eN := hide (fun h => strs_no (f := txtB) hk' h)
      clear hrow hv
      generalize vs[k] = V at c0 qo eT eN
      generalize txtB V = T at qo eT eN
      go_wp2_with fail
      refine (unhide qo _).mono ?_
      rintro e w2 ⟨rfl, hb2⟩
      have B2 := hide (bTr (unhide hb) hb2)
      clear hb2 qo c0
      cases T
      · have no : Hid (¬ G) := hide (fun h => by have h1 := ((unhide hG).1 h).1; rw [unhide eN (by first | rfl | trivial)] at h1; cases h1)
        go_wp2_with fail
        go_ret
        exact ⟨retB ⟨fun h => (by cases h), fun h => absurd h (unhide no)⟩, bTr (unhide B) (unhide B2)⟩
      · go_wp2_with fail
        exact ⟨⟨k + 1, by omega, by go_num, hide (by rw [unhide eT, unhide ha]; rfl), B2⟩, by simp [intOf]; omega⟩
    · obtain rfl : k = len := by omega
      have hall : Hid (vs.all txtB = true) := hide (by have := unhide ha; rwa [unhide hll, List.take_length] at this)
      have e1 := ((unhide R).keep (unhide hb)).at (o := 1) (v := .slice a k cap) rfl
      have qr := hide (risingN_any a k cap vs wr (by omega) ((unhide HS).keep (unhide hb)))
      go_wp2_with fail
      refine (unhide qr).mono ?_
      rintro e w2 ⟨⟨t, rfl, ht⟩, hb2⟩
      have HT := hide ht
      clear ht qr
      go_wp2_with fail
      go_ret
      exact ⟨retB ⟨fun h => (unhide hG).2 ⟨unhide hall, (unhide HT).1 h⟩, fun h => (unhide HT).2 ((unhide hG).1 h).2⟩, bTr (bTr (unhide B) (unhide hb)) hb2⟩

set_option maxHeartbeats 1000000 in
theorem byName_any (A D : AttrT) (a d : Option Addr) (l1 c1 l2 c2 : Nat) (w : World) :
    Calls Try.prog 62 #[.agg #[.string A.n, .slice a l1 c1], .agg #[.string D.n, .slice d l2 c2]] w fun e w' => e = .returned (.int .i64 (cmpT A.n.data.toList D.n.data.toList)) ∧ Below w.heap.size w w' := by
  have q1 := hide (fun w => stringsCompare_any A.n D.n w)
  have B := hide (bAl (bAl (Below.refl w.heap.size w) (.cells #[.string A.n, .slice a l1 c1] 98)) (.cells #[.string D.n, .slice d l2 c2] 98))
  go_enter Try.func62, Try.ntmps62
  go_wp2_with fail
  refine (unhide q1 _).mono ?_
  rintro e w1 ⟨rfl, rfl⟩
  go_wp2_with fail
  go_ret
  exact ⟨rfl, unhide B⟩

set_option maxHeartbeats 1000000 in
theorem risingM_any (a : Option Addr) (len cap : Nat) (l : List AttrT) (w : World) (hl : len ≤ 50) (hs : SlA w a len l) :
    Calls Try.prog 61 #[.slice a len cap, .func (.func 62) #[] #[]] w fun e w' => RetB e (RisM l l.length) ∧ Below w.heap.size w w' := by
  have HS := hide hs
  clear hs
  go_enter Try.func61, Try.ntmps61
  go_wp2
  go_loopw [5] (fun i w' => ∃ k : Nat, 1 ≤ k ∧ (k ≤ len ∨ k = 1) ∧ i = .int .i64 k ∧ Hid (Below w.heap.size w w') ∧ Hid (RisM l k)) (fun i _ => len - (intOf i).toNat)
  case atStart => exact ⟨1, Nat.le_refl _, .inr rfl, rfl, hide (Below.refl _ _), hide (fun i _ h h' => absurd h (by omega))⟩
  case round =>
    obtain ⟨k, hk1, hk, rfl, hb, hris⟩ := hrel
    by_cases hlt : k < len
    · obtain ⟨j, rfl⟩ : ∃ j, k = j + 1 := ⟨k - 1, by omega⟩
      have hk' : j + 1 < l.length := by rw [← (unhide HS).1]; exact hlt
      obtain ⟨b, off, rfl, hrow⟩ := ((unhide HS).keep (unhide hb)).at hlt
      obtain ⟨pk, xa, xl, xc, pk1, _⟩ := hrow.c (j + 1) hk'
      obtain ⟨pj, ya, yl, yc, pj1, _⟩ := hrow.c j (by omega)
      have zk := hrow.z
      have qc := hide (fun w => byName_any (l[j]'(by omega)) (l[j + 1]'hk') ya xa yl yc xl xc w)
      have stepR := hide (fun g : cmpT (l[j]'(by omega)).n.data.toList (l[j + 1]'hk').n.data.toList < 0 => (unhide hris).step hk' (fun _ => g))
      have noR := hide (fun (g : ¬ cmpT (l[j]'(by omega)).n.data.toList (l[j + 1]'hk').n.data.toList < 0) (h : RisM l l.length) => g (h (j + 1) hk' (by omega) hk'))
      clear hrow
      generalize l[j + 1] = P at *
      generalize l[j] = Q at *
      have ne : Nonempty (Kept wr) := ⟨⟨wr, Below.refl _ _⟩⟩
      have x0 := kept_cell zk pk
      have t0 := kept_cell zk pj
      have x1 := kept_cell zk pk1
      have t1 := kept_cell zk pj1
      have ej : IntKind.i64.wrap ((j : Int) + 1 - 1) = (j : Int) := by rw [IntKind.wrap_i64]; omega
      have i0 : (0 : Int) ≤ (j : Int) := by omega
      have i1 : (j : Int) < (len : Int) := by omega
      have i2 : (j : Int) + 1 < (len : Int) := by omega
      clear pk pj pk1 pj1
      by_cases hc : cmpT Q.n.data.toList P.n.data.toList < 0
      · have dc : decide (0 ≤ cmpT Q.n.data.toList P.n.data.toList) = false := by simp; omega
        replace stepR := hide (unhide stepR hc)
        clear hc
        go_wp2_with fail
        refine wp_region_kept (by kernel_rfl) (by kernel_rfl) ?_
        repeat (first
          | go_big_quiet_step ((go_at_call 62; exact kept_call (unhide qc _)))
          | quiet_step ((go_at_call 62; exact kept_call (unhide qc _))))
        refine wpQuiet_nil ?_
        rintro _ ⟨q, rfl⟩
        go_wp2_with fail
        exact ⟨⟨j + 1 + 1, by omega, by omega, by go_num, hide (bTr (unhide hb) q.h), stepR⟩, by simp [intOf]; omega⟩
      · have dc : decide (0 ≤ cmpT Q.n.data.toList P.n.data.toList) = true := by simp; omega
        replace noR := hide (unhide noR hc)
        clear hc
        go_wp2_with fail
        refine wp_region_kept (by kernel_rfl) (by kernel_rfl) ?_
        repeat (first
          | go_big_quiet_step ((go_at_call 62; exact kept_call (unhide qc _)))
          | quiet_step ((go_at_call 62; exact kept_call (unhide qc _))))
        refine wpQuiet_nil ?_
        rintro _ ⟨q, rfl⟩
        go_wp2_with fail
        go_ret
        exact ⟨retB (b := false) ⟨fun h => (by cases h), fun h => absurd h (unhide noR)⟩, bTr (unhide hb) q.h⟩
    · have hR : Hid (RisM l l.length) := hide (fun i h h0 h1 => by
        have hl' := (unhide HS).1
        exact unhide hris i h h0 (by omega))
      go_wp2_with fail
      go_ret
      exact ⟨retB (b := true) ⟨fun _ => unhide hR, fun _ => rfl⟩, unhide hb⟩

/-- A good entry. -/
def EntG (l : List PartT) (m : List AttrT) : Prop := (1 ≤ l.length ∧ dirB l = true) ∧ (1 ≤ m.length ∧ m.length ≤ 30) ∧ (∀ i (h : i < m.length), AttrG m[i]) ∧ RisM m m.length

set_option maxHeartbeats 1000000 in
theorem iGoodEntry_any (l : List PartT) (m : List AttrT) (b1 b2 l1 l2 : Nat) (w : World) (e1 : l1 = l.length) (e2 : l2 = m.length) (h1 : PartRow w b1 0 l) (h2 : AttrRow w b2 0 m) (m1 : l1 ≤ maxLen) (m2 : l2 ≤ maxLen) (o1 : ∀ q ∈ l, PartT.Ok q) (o2 : ∀ q ∈ m, AttrT.Ok q) :
    Calls Try.prog 30 #[.agg #[.slice (some ⟨b1, 0, none⟩) l1 l1, .slice (some ⟨b2, 0, none⟩) l2 l2]] w fun e w' => RetB e (EntG l m) ∧ Below w.heap.size w w' := by
  have hG : Hid (EntG l m ↔ ((1 ≤ l1 ∧ dirB l = true) ∧ (1 ≤ l2 ∧ l2 ≤ 30) ∧ (∀ i (h : i < m.length), AttrG m[i]) ∧ RisM m m.length)) := hide (by unfold EntG; rw [e1, e2])
  generalize EntG l m = G at hG
  have q1 := hide (fun w (h : PartRow w b1 0 l) => iGoodDirName_any (some ⟨b1, 0, none⟩) l1 l1 l w m1 ⟨e1, .inr ⟨b1, 0, rfl, h⟩⟩ o1)
  have B := hide (bAl (Below.refl w.heap.size w) (.cells #[.slice (some ⟨b1, 0, none⟩) l1 l1, .slice (some ⟨b2, 0, none⟩) l2 l2] 55))
  have R := hide (RowIs.new w #[.slice (some ⟨b1, 0, none⟩) l1 l1, .slice (some ⟨b2, 0, none⟩) l2 l2] 55)
  have H1 := hide (h1.keep (unhide B))
  have H2 := hide (h2.keep (unhide B))
  have HO := hide o2
  have E2 := hide e2
  unfold maxLen at m1 m2
  clear h1 h2 o1 o2 e1 e2
  generalize dirB l = T1 at q1 hG
  by_cases g1 : l1 < 1
  · have no : Hid (¬ G) := hide (fun h => by have := ((unhide hG).1 h).1.1; omega)
    obtain rfl : l1 = 0 := by omega
    go_enter Try.func30, Try.ntmps30
    go_wp2_with fail
    go_ret
    exact ⟨retB ⟨fun h => (by cases h), fun h => absurd h (unhide no)⟩, unhide B⟩
  have d0 : decide ((l1 : Int) < 1) = false := by simp; omega
  cases T1
  · have no : Hid (¬ G) := hide (fun h => by have := ((unhide hG).1 h).1.2; cases this)
    go_enter Try.func30, Try.ntmps30
    go_wp2_with fail
    refine (unhide q1 _ (unhide H1)).mono ?_
    rintro e w1 ⟨rfl, hb⟩
    go_wp2_with fail
    go_ret
    exact ⟨retB ⟨fun h => (by cases h), fun h => absurd h (unhide no)⟩, bTr (unhide B) hb⟩
  by_cases g2 : l2 < 1
  · have no : Hid (¬ G) := hide (fun h => by have := ((unhide hG).1 h).2.1; omega)
    obtain rfl : l2 = 0 := by omega
    go_enter Try.func30, Try.ntmps30
    go_wp2_with fail
    refine (unhide q1 _ (unhide H1)).mono ?_
    rintro e w1 ⟨rfl, hb⟩
    have c1 := ((unhide R).keep hb).at (o := 1) (v := .slice (some ⟨b2, 0, none⟩) 0 0) rfl
    go_wp2_with fail
    go_ret
    exact ⟨retB ⟨fun h => (by cases h), fun h => absurd h (unhide no)⟩, bTr (unhide B) hb⟩
  have d1 : decide ((l2 : Int) < 1) = false := by simp; omega
  by_cases g3 : 30 < l2
  · have no : Hid (¬ G) := hide (fun h => by have := ((unhide hG).1 h).2.1; omega)
    have d2 : decide (30 < (l2 : Int)) = true := by simp; omega
    go_enter Try.func30, Try.ntmps30
    go_wp2_with fail
    refine (unhide q1 _ (unhide H1)).mono ?_
    rintro e w1 ⟨rfl, hb⟩
    have c1 := ((unhide R).keep hb).at (o := 1) (v := .slice (some ⟨b2, 0, none⟩) l2 l2) rfl
    go_wp2_with fail
    go_ret
    exact ⟨retB ⟨fun h => (by cases h), fun h => absurd h (unhide no)⟩, bTr (unhide B) hb⟩
  have d2 : decide (30 < (l2 : Int)) = false := by simp; omega
  replace hG : Hid (G ↔ ((∀ i (h : i < m.length), AttrG m[i]) ∧ RisM m m.length)) := hide ⟨fun h => ((unhide hG).1 h).2.2, fun h => (unhide hG).2 ⟨⟨by omega, rfl⟩, by omega, h⟩⟩
  go_enter Try.func30, Try.ntmps30
  go_wp2_with fail
  refine (unhide q1 _ (unhide H1)).mono ?_
  rintro e w1 ⟨rfl, hb⟩
  replace R := hide ((unhide R).keep hb)
  replace H2 := hide ((unhide H2).keep hb)
  replace B := hide (bTr (unhide B) hb)
  clear hb q1 H1
  have c1 := (unhide R).at (o := 1) (v := .slice (some ⟨b2, 0, none⟩) l2 l2) rfl
  go_wp2_with fail
  clear c1
  go_loopw [28] (fun i w' => ∃ (k : Nat), k ≤ l2 ∧ i = .int .i64 k ∧ Hid (∀ i (h : i < m.length), i < k → AttrG m[i]) ∧ Hid (Below w1.heap.size w1 w')) (fun i _ => l2 - (intOf i).toNat)
  case atStart => exact ⟨0, Nat.zero_le _, rfl, hide (fun i _ h => absurd h (Nat.not_lt_zero _)), hide (Below.refl _ _)⟩
  case round =>
    obtain ⟨k, hk, rfl, ha, hb⟩ := hrel
    by_cases hlt : k < l2
    · have hk' : k < m.length := by rw [← unhide E2]; exact hlt
      have hrow := (unhide H2).keep (unhide hb)
      obtain ⟨p0, xa, xl, xc, p1, hsl⟩ := hrow.c k hk'
      rw [Nat.zero_add] at p0 p1
      have ho := unhide HO _ (List.getElem_mem hk')
      have qa := hide (fun w (hs : SlS w xa xl (m[k]'hk').vs) => goodAttr_any (m[k]'hk') xa xl xc w ho hs)
      have eT := hide (show AttrG (m[k]'hk') → ∀ i (h : i < m.length), i < k + 1 → AttrG m[i] from fun hg i hi hik => by
        rcases Nat.lt_or_ge i k with h | h
        · exact unhide ha i hi h
        · obtain rfl : i = k := by omega
          exact hg)
      have eN := hide (show G → AttrG (m[k]'hk') from fun h => ((unhide hG).1 h).1 k hk')
      have B2 := hide (bAl (unhide hb) (.cells #[.string (m[k]'hk').n, .slice xa xl xc] 98))
      have S2 := hide (hsl.keep (bAl (Below.refl _ _) (.cells #[.string (m[k]'hk').n, .slice xa xl xc] 98)))
      clear hrow hsl ho
      generalize m[k] = A at p0 qa eT eN B2 S2
      go_wp2_with fail
      refine (unhide qa _ (unhide S2)).mono ?_
      rintro e w2 ⟨⟨t, rfl, ht⟩, hb2⟩
      have HT := hide ht
      replace B2 := hide (bTr (unhide B2) hb2)
      clear hb2 ht qa S2 p0 p1
      cases t
      · have no : Hid (¬ G) := hide (fun h => by have := (unhide HT).2 (unhide eN h); cases this)
        go_wp2_with fail
        go_ret
        exact ⟨retB ⟨fun h => (by cases h), fun h => absurd h (unhide no)⟩, bTr (unhide B) (unhide B2)⟩
      · have hg := hide (unhide eT ((unhide HT).1 rfl))
        go_wp2_with fail
        exact ⟨⟨k + 1, by omega, by go_num, hg, B2⟩, by simp [intOf]; omega⟩
    · obtain rfl : k = l2 := by omega
      have hall : Hid (∀ i (h : i < m.length), AttrG m[i]) := hide (fun i hi => unhide ha i hi (by rw [unhide E2]; exact hi))
      have c1 := ((unhide R).keep (unhide hb)).at (o := 1) (v := .slice (some ⟨b2, 0, none⟩) k k) rfl
      have qr := hide (risingM_any (some ⟨b2, 0, none⟩) k k m wr (by omega) ⟨unhide E2, .inr ⟨b2, 0, rfl, (unhide H2).keep (unhide hb)⟩⟩)
      go_wp2_with fail
      refine (unhide qr).mono ?_
      rintro e w2 ⟨⟨t, rfl, ht⟩, hb2⟩
      have HT := hide ht
      clear ht qr
      go_wp2_with fail
      go_ret
      exact ⟨retB ⟨fun h => (unhide hG).2 ⟨unhide hall, (unhide HT).1 h⟩, fun h => (unhide HT).2 ((unhide hG).1 h).2⟩, bTr (bTr (unhide B) (unhide hb)) hb2⟩
end Go.Proofs.Ythmjefmljcdpcaa
