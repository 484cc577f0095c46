/- Attributes: a name and a slice of strings; laws.szAttr, szAttrS, toAttr, toAttrS, eqAttr, eqAttrS. -/
import Derived.Test.YthmjefmljcdpcaaQStr
namespace Go.Proofs.Ythmjefmljcdpcaa
open Go.RowKit

structure AttrT where
  n : ByteArray
  vs : List ByteArray
structure AttrT.Ok (p : AttrT) : Prop where
  n9 : p.n.size ≤ maxLen
  l9 : p.vs.length ≤ maxLen
  v9 : ∀ q ∈ p.vs, ByteArray.size q ≤ maxLen
/-- Two cells from o on: a string, and a slice that reads as vs. -/
structure AttrIn (w : World) (b o : Nat) (A : AttrT) : Prop where
  c0 : w.cell? ⟨b, o, none⟩ = some (.string A.n)
  c1 : ∃ a len cap, w.cell? ⟨b, o + 1, none⟩ = some (.slice a len cap) ∧ SlS w a len A.vs
structure AttrRow (w : World) (b off : Nat) (l : List AttrT) : Prop where
  z : b < w.heap.size
  c : ∀ i (h : i < l.length), AttrIn w b (off + i * 2) l[i]
theorem AttrIn.keep {w w1 : World} {b o : Nat} {A : AttrT} (h : AttrIn w b o A) (hz : b < w.heap.size) (hb : Below w.heap.size w w1) : AttrIn w1 b o A :=
  ⟨cellB hb hz h.c0, by obtain ⟨a, len, cap, h1, h2⟩ := h.c1; exact ⟨a, len, cap, cellB hb hz h1, h2.keep hb⟩⟩
theorem AttrRow.keep {w w1 : World} {b off : Nat} {l : List AttrT} (h : AttrRow w b off l) (hb : Below w.heap.size w w1) : AttrRow w1 b off l :=
  ⟨Nat.lt_of_lt_of_le h.z hb.size, fun i hi => (h.c i hi).keep h.z hb⟩
def SlA (w : World) (a : Option Addr) (len : Nat) (l : List AttrT) : Prop := len = l.length ∧ (l = [] ∨ ∃ b off, a = some ⟨b, off, none⟩ ∧ AttrRow w b off l)
theorem SlA.keep {w w1 : World} {a : Option Addr} {len : Nat} {l : List AttrT} (h : SlA w a len l) (hb : Below w.heap.size w w1) : SlA w1 a len l :=
  ⟨h.1, by
    rcases h.2 with e | ⟨b, off, e, r⟩
    · exact .inl e
    · exact .inr ⟨b, off, e, r.keep hb⟩⟩
theorem SlA.at {w : World} {a : Option Addr} {len : Nat} {l : List AttrT} (h : SlA w a len l) {k : Nat} (hk : k < len) : ∃ b off, a = some ⟨b, off, none⟩ ∧ AttrRow w b off l := by
  rcases h.2 with e | e
  · rw [h.1, e] at hk; simp at hk
  · exact e

set_option maxHeartbeats 400000 in
theorem szAttr_any (n : ByteArray) (vs : List ByteArray) (a : Option Addr) (len cap : Nat) (l : Int) (w : World) (h0 : 0 ≤ l) (h1 : l ≤ 1048576) (hn : n.size ≤ maxLen) (hl : len ≤ maxLen) (hs : SlS w a len vs) (hv : ∀ q ∈ vs, ByteArray.size q ≤ maxLen) :
    Calls Try.prog 89 #[.agg #[.string n, .slice a len cap], .int .i64 l] w fun e w' => (∃ m : Int, -1 ≤ m ∧ m ≤ l ∧ (0 ≤ m → (len : Int) ≤ l) ∧ e = .returned (.int .i64 m)) ∧ Below w.heap.size w w' := by
  have qs := hide (fun q w h0 h1 hs => szStringS_any a len cap vs q w h0 h1 hl hs hv)
  have HS := hide (hs.keep (bAl (Below.refl _ _) (.cells #[.string n, .slice a len cap] 135)))
  have BA := hide (bAl (Below.refl w.heap.size w) (.cells #[.string n, .slice a len cap] 135))
  unfold maxLen at hn
  clear hs hv hl
  by_cases hz : l - (n.size : Int) < 0
  · go_enter Try.func89, Try.ntmps89
    go_wp2_with fail
    go_ret
    exact ⟨⟨-1, by omega, by omega, by omega, rfl⟩, unhide BA⟩
  go_enter Try.func89, Try.ntmps89
  go_wp2_with fail
  refine (unhide qs _ _ (by omega) (by omega) (unhide HS)).mono ?_
  rintro e w1 ⟨⟨m, hm1, hm2, hm3, rfl⟩, rfl⟩
  by_cases hm : m < 0
  · go_wp2_with fail
    go_ret
    exact ⟨⟨-1, by omega, by omega, by omega, rfl⟩, unhide BA⟩
  · go_wp2_with fail
    go_ret
    exact ⟨⟨m, by omega, by omega, by omega, rfl⟩, unhide BA⟩

set_option maxHeartbeats 400000 in
theorem szAttrS_any (a : Option Addr) (len cap : Nat) (l : List AttrT) (left : Int) (w : World) (h0 : 0 ≤ left) (h1 : left ≤ 1048576) (hl : len ≤ maxLen) (hs : SlA w a len l) (hok : ∀ q ∈ l, AttrT.Ok q) :
    Calls Try.prog 58 #[.slice a len cap, .int .i64 left] w fun e w' => (∃ m : Int, -1 ≤ m ∧ m ≤ left ∧ (0 ≤ m → (len : Int) ≤ left ∧ ∀ i (h : i < l.length), (l[i].vs.length : Int) ≤ left) ∧ e = .returned (.int .i64 m)) ∧ Below w.heap.size w w' := by
  unfold maxLen at hl
  by_cases hlen : left < (len : Int)
  · go_enter Try.func58, Try.ntmps58
    go_wp2
    go_ret
    exact ⟨⟨-1, by omega, by omega, by omega, rfl⟩, Below.refl _ _⟩
  have d1 : decide (left - (len : Int) < 0) = false := by simp; omega
  have HS := hide hs
  clear hs
  go_enter Try.func58, Try.ntmps58
  go_wp2
  go_loopw [1, 5] (fun m i w' => ∃ (k : Nat) (q : Int), k ≤ len ∧ 0 ≤ q ∧ q ≤ left ∧ i = .int .i64 k ∧ m = .int .i64 q ∧ Hid (∀ i (h : i < l.length), i < k → (l[i].vs.length : Int) ≤ left) ∧ Below w.heap.size w w') (fun _ i _ => len - (intOf i).toNat)
  case atStart => exact ⟨0, _, Nat.zero_le _, by omega, by omega, rfl, rfl, hide (fun i _ h => absurd h (Nat.not_lt_zero _)), Below.refl _ _⟩
  case round =>
    obtain ⟨k, q, hk, hq1, hq2, rfl, rfl, hall, hbel⟩ := hrel
    by_cases hlt : k < len
    · obtain ⟨b, off, rfl, hrow⟩ := ((unhide HS).keep hbel).at hlt
      have hk' : k < l.length := by rw [← (unhide HS).1]; exact hlt
      obtain ⟨c0, a', len', cap', c1, hsl⟩ := hrow.c k hk'
      have ho := hok _ (List.getElem_mem hk')
      have hlen' : len' = l[k].vs.length := hsl.1
      have hz := hide (fun q w h0 h1 (hs : SlS w a' len' (l[k]'hk').vs) => szAttr_any (l[k]'hk').n (l[k]'hk').vs a' len' cap' q w h0 h1 ho.n9 (by rw [hlen']; exact ho.l9) hs ho.v9)
      have hst := hide (show (len' : Int) ≤ left → ∀ i (h : i < l.length), i < k + 1 → (l[i].vs.length : Int) ≤ left from fun hle i hi hik => by
        rcases Nat.lt_or_ge i k with h | h
        · exact unhide hall i hi h
        · obtain rfl : i = k := by omega
          rw [← hlen']; exact hle)
      have HSL := hide hsl
      clear hrow ho hok hsl hlen'
      generalize l[k] = A at hz c0 HSL
      go_wp2_with fail
      refine (unhide hz _ _ (by omega) (by omega) (unhide HSL)).mono ?_
      rintro e w1 ⟨⟨m, hm1, hm2, hm3, rfl⟩, hb1⟩
      by_cases hm : m < 0
      · go_wp2_with fail
        go_ret
        exact ⟨⟨-1, by omega, by omega, by omega, rfl⟩, bTr hbel hb1⟩
      · have hst2 := hide (unhide hst (by have := hm3 (by omega); omega))
        go_wp2_with fail
        exact ⟨⟨k + 1, m, by omega, by omega, by omega, by go_num, rfl, hst2, bTr hbel hb1⟩, by simp [intOf]; omega⟩
    · go_wp2_with fail
      go_ret
      exact ⟨⟨q, by omega, by omega, fun _ => ⟨by omega, fun i hi => unhide hall i hi (by rw [← (unhide HS).1] at hi; omega)⟩, rfl⟩, hbel⟩

set_option maxHeartbeats 400000 in
theorem toAttr_any (n : ByteArray) (vs : List ByteArray) (a : Option Addr) (len cap : Nat) (w : World) (hl : len ≤ 1048576) (hs : SlS w a len vs) :
    Calls Try.prog 90 #[.agg #[.string n, .slice a len cap]] w fun e w' => (∃ b, e = .returned (.agg #[.string n, .slice (some ⟨b, 0, none⟩) len len]) ∧ w.heap.size ≤ b ∧ StrRow w' b 0 vs) ∧ Below w.heap.size w w' := by
  have q2 : Hid (∀ w, SlS w a len vs → Calls Try.prog 102 #[.slice a len cap] w fun e w' => ∃ b, e = .returned (.slice (some ⟨b, 0, none⟩) len len) ∧ w.heap.size ≤ b ∧ StrRow w' b 0 vs ∧ Below w.heap.size w w') :=
    hide (fun w hs => (toStringS_any a len cap vs w hl hs).mono fun _ _ h => ⟨_, h.1, Nat.le_refl _, h.2.1, h.2.2⟩)
  have HS := hide hs
  clear hs hl
  go_enter Try.func90, Try.ntmps90
  go_wp2_with fail
  have src := hide (((RowIs.new w #[.string n, .slice a len cap] 135).keep (bAl (Below.refl _ _) (.cells #[.string ⟨#[]⟩, .slice none 0 0] 98))).keep (bAl (Below.refl _ _) (.cells #[.string n, .slice none 0 0] 98)))
  have ro := hide (((RowIs.new (w.alloc (.cells #[.string n, .slice a len cap] 135)) #[.string ⟨#[]⟩, .slice none 0 0] 98).keep (bAl (Below.refl _ _) (.cells #[.string n, .slice none 0 0] 98))))
  have out := hide (RowIs.new ((w.alloc (.cells #[.string n, .slice a len cap] 135)).alloc (.cells #[.string ⟨#[]⟩, .slice none 0 0] 98)) #[.string n, .slice none 0 0] 98)
  have bw := hide (bAl (bAl (bAl (Below.refl w.heap.size w) (.cells #[.string n, .slice a len cap] 135)) (.cells #[.string ⟨#[]⟩, .slice none 0 0] 98)) (.cells #[.string n, .slice none 0 0] 98))
  have sz : ((((w.alloc (.cells #[.string n, .slice a len cap] 135)).alloc (.cells #[.string ⟨#[]⟩, .slice none 0 0] 98)).alloc (.cells #[.string n, .slice none 0 0] 98))).heap.size = w.heap.size + 3 := by simp
  simp only [World.size_alloc] at ro out
  generalize ((((w.alloc (.cells #[.string n, .slice a len cap] 135)).alloc (.cells #[.string ⟨#[]⟩, .slice none 0 0] 98)).alloc (.cells #[.string n, .slice none 0 0] 98))) = W at src ro out bw sz ⊢
  refine (unhide q2 _ ((unhide HS).keep (unhide bw))).mono ?_
  rintro e w2 ⟨b, rfl, hb1, hrow, hb⟩
  have n1 : b ≠ w.heap.size + 1 + 1 := by omega
  have n2 : b ≠ w.heap.size + 1 := by omega
  have hbw : w.heap.size ≤ b := by omega
  replace out := (unhide out).keep hb
  replace ro := (unhide ro).keep hb
  replace bw := bTr (unhide bw) hb
  clear hb hb1 q2 src sz
  have f1 := out.froz 1
  have k0 : w2.cell? ⟨w.heap.size + 1 + 1, 0, none⟩ = some (.string n) := out.at rfl
  have k1 : w2.cell? ⟨w.heap.size + 1 + 1, 1, none⟩ = some (.slice none 0 0) := out.at rfl
  have g0 := ro.froz 0
  have g1 := ro.froz 1
  have j0 : w2.cell? ⟨w.heap.size + 1, 0, none⟩ = some (.string ⟨#[]⟩) := ro.at rfl
  have j1 : w2.cell? ⟨w.heap.size + 1, 1, none⟩ = some (.slice none 0 0) := ro.at rfl
  clear out ro
  go_wp2_with fail
  refine bodyPost_ret (v := .agg #[.string n, .slice (some ⟨b, 0, none⟩) len len]) (by simp [results, Try.results90, go_sem, j0, j1]) rfl ⟨⟨b, rfl, hbw, ?_⟩, ?_⟩
  · exact ((hrow.setOther _ n1).setOther _ n2).setOther _ n2
  · exact ((bw.setCell (by simp; omega) _).setCell (by simp) _).setCell (by simp) _

/-- The first k attributes of l lie in C, block B; their strings in other blocks. -/
def FilledA (w : World) (B : Nat) (C : Array Value) (l : List AttrT) (k : Nat) : Prop :=
  ∀ i (h : i < l.length), i < k → C[i * 2]? = some (.string l[i].n) ∧ ∃ b, B < b ∧ C[i * 2 + 1]? = some (.slice (some ⟨b, 0, none⟩) l[i].vs.length l[i].vs.length) ∧ StrRow w b 0 l[i].vs
theorem FilledA.keep {w w1 : World} {B : Nat} {C : Array Value} {l : List AttrT} {k : Nat} (h : FilledA w B C l k) (hb : Below w.heap.size w w1) : FilledA w1 B C l k := fun i hi hik => by
  obtain ⟨h1, b, h2, h3, h4⟩ := h i hi hik
  exact ⟨h1, b, h2, h3, h4.keep hb⟩
theorem FilledA.setOther {w : World} {B : Nat} {C : Array Value} {l : List AttrT} {k o : Nat} {v : Value} (h : FilledA w B C l k) : FilledA (w.setCell ⟨B, o, none⟩ v) B C l k := fun i hi hik => by
  obtain ⟨h1, b, h2, h3, h4⟩ := h i hi hik
  exact ⟨h1, b, h2, h3, h4.setOther v (by omega)⟩
def setA (C : Array Value) (k : Nat) (n : ByteArray) (v : Value) : Array Value := (C.setIfInBounds (k * 2) (.string n)).setIfInBounds (k * 2 + 1) v
theorem size_setA (C : Array Value) (k : Nat) (n : ByteArray) (v : Value) : (setA C k n v).size = C.size := by simp [setA]
theorem FilledA.set {w : World} {B : Nat} {C : Array Value} {l : List AttrT} {k b : Nat} (h : FilledA w B C l k) (hk : k < l.length) (hC : C.size = l.length * 2) (hb : B < b) (hr : StrRow w b 0 l[k].vs) :
    FilledA w B (setA C k l[k].n (.slice (some ⟨b, 0, none⟩) l[k].vs.length l[k].vs.length)) l (k + 1) := by
  intro i hi hik
  unfold setA
  by_cases e : i = k
  · subst e
    have s0 : i * 2 < C.size := by omega
    have s1 : i * 2 + 1 < C.size := by omega
    refine ⟨by simp [s0], b, hb, by simp [s1], hr⟩
  · obtain ⟨h1, b', h2, h3, h4⟩ := h i hi (by omega)
    refine ⟨?_, b', h2, ?_, h4⟩
    · simp only [Array.getElem?_setIfInBounds]
      repeat rw [if_neg (by omega)]
      exact h1
    · simp only [Array.getElem?_setIfInBounds]
      repeat rw [if_neg (by omega)]
      exact h3
/-- Attributes that were made: all of it in blocks from B on. -/
structure AttrNew (w : World) (B : Nat) (l : List AttrT) : Prop where
  z : B < w.heap.size
  c : ∀ i (h : i < l.length), w.cell? ⟨B, i * 2, none⟩ = some (.string l[i].n) ∧ ∃ b, B < b ∧ w.cell? ⟨B, i * 2 + 1, none⟩ = some (.slice (some ⟨b, 0, none⟩) l[i].vs.length l[i].vs.length) ∧ StrRow w b 0 l[i].vs
theorem AttrNew.row {w : World} {B : Nat} {l : List AttrT} (h : AttrNew w B l) : AttrRow w B 0 l :=
  ⟨h.z, fun i hi => by
    obtain ⟨h1, b, _, h3, h4⟩ := h.c i hi
    exact ⟨by rw [Nat.zero_add]; exact h1, _, _, _, by rw [Nat.zero_add]; exact h3, rfl, .inr ⟨b, 0, rfl, h4⟩⟩⟩
theorem AttrNew.keep {w w1 : World} {B : Nat} {l : List AttrT} (h : AttrNew w B l) (hb : Below w.heap.size w w1) : AttrNew w1 B l :=
  ⟨Nat.lt_of_lt_of_le h.z hb.size, fun i hi => by
    obtain ⟨h1, b, h2, h3, h4⟩ := h.c i hi
    exact ⟨cellB hb h.z h1, b, h2, cellB hb h.z h3, h4.keep hb⟩⟩
theorem AttrNew.setOther {w : World} {B : Nat} {l : List AttrT} (h : AttrNew w B l) {b' o' : Nat} (v : Value) (hb : b' < B) : AttrNew (w.setCell ⟨b', o', none⟩ v) B l :=
  ⟨by simpa [World.setCell] using h.z, fun i hi => by
    obtain ⟨h1, b, h2, h3, h4⟩ := h.c i hi
    exact ⟨by rw [cell_setOther v (by omega)]; exact h1, b, h2, by rw [cell_setOther v (by omega)]; exact h3, h4.setOther v (by omega)⟩⟩
theorem FilledA.row {w : World} {B : Nat} {C : Array Value} {T : TypeId} {l : List AttrT} (h : FilledA w B C l l.length) (hr : RowIs w B C T) : AttrNew w B l :=
  ⟨hr.lt, fun i hi => by
    obtain ⟨h1, b, h2, h3, h4⟩ := h i hi hi
    exact ⟨by rw [hr.cell]; exact h1, b, h2, by rw [hr.cell]; exact h3, h4⟩⟩

theorem make_attrs (len : Nat) (w : World) (h : len ≤ 1048576) : ∃ w1 C, (Instr.makeSlice 53 (.int .i64 (len : Int)) (.int .i64 (len : Int))).run Try.prog w = .ok (.slice (some ⟨w.heap.size, 0, none⟩) len len) w1 ∧
    Below w.heap.size w w1 ∧ RowIs w1 w.heap.size C 98 ∧ C.size = len * 2 := by
  have hi : (Try.prog.info? 98).map (fun i => (i.zero, i.size, i.bytes)) = some (some (.agg #[.string ByteArray.empty, .slice none 0 0]), 2, 40) := by kernel_rfl
  obtain ⟨i, h1, h2⟩ := Option.map_eq_some_iff.1 hi
  simp only [Prod.mk.injEq] at h2
  obtain ⟨hz, hsz, hby⟩ := h2
  have hr := run_make (P := Try.prog) w 53 98 i _ Try.underlying53 h1 hz .i64 .i64 (len : Int) (len : Int) (by omega) (by omega) (by rw [hby]; omega) (by omega)
  rw [Int.toNat_natCast, hsz] at hr
  exact ⟨_, _, hr, bAl (Below.refl _ _) _, RowIs.new _ _ _, size_madeCells _ _⟩

set_option maxHeartbeats 800000 in
theorem toAttrS_any (a : Option Addr) (len cap : Nat) (l : List AttrT) (w : World) (hl : len ≤ 1048576) (hv : ∀ i (h : i < l.length), l[i].vs.length ≤ 1048576) (hs : SlA w a len l) :
    Calls Try.prog 59 #[.slice a len cap] w fun e w' => e = .returned (.slice (some ⟨w.heap.size, 0, none⟩) len len) ∧ AttrNew w' w.heap.size l ∧ Below w.heap.size w w' := by
  obtain ⟨w1, C1, hrun, hb1, hr1, hC1⟩ := make_attrs len w hl
  have HS := hide hs
  have HV := hide hv
  have HB1 := hide hb1
  have HR1 := hide hr1
  clear hs hb1 hr1 hv
  go_enter Try.func59, Try.ntmps59
  go_wp2
  clear hrun
  go_loopw [4] (fun i w' => ∃ (k : Nat) (C : Array Value), k ≤ len ∧ i = .int .i64 k ∧ Hid (Below w.heap.size w w') ∧ Hid (RowIs w' w.heap.size C 98) ∧ Hid (C.size = len * 2) ∧ Hid (FilledA w' w.heap.size C l k)) (fun i _ => len - (intOf i).toNat)
  case atStart => exact ⟨0, C1, Nat.zero_le _, rfl, HB1, HR1, hide hC1, hide (fun i _ h => absurd h (Nat.not_lt_zero _))⟩
  case round =>
    obtain ⟨k, C, hk, rfl, hb, hr, hC, hF⟩ := hrel
    by_cases hlt : k < len
    · obtain ⟨b, off, rfl, hrow⟩ := ((unhide HS).keep (unhide hb)).at hlt
      have hk' : k < l.length := by rw [← (unhide HS).1]; exact hlt
      obtain ⟨c0, a', len', cap', c1, hsl⟩ := hrow.c k hk'
      have hle : len' = l[k].vs.length := hsl.1
      subst hle
      have hvk := unhide HV k hk'
      have hF' := hide (fun w' b' (h : FilledA w' w.heap.size C l k) => h.set (b := b') hk' (by rw [unhide hC, (unhide HS).1]))
      have ht := hide (fun w (hs : SlS w a' (l[k]'hk').vs.length (l[k]'hk').vs) => toAttr_any (l[k]'hk').n (l[k]'hk').vs a' _ cap' w hvk hs)
      have HSL := hide hsl
      clear hrow hC1 hsl hvk
      generalize l[k] = A at c0 c1 hF' ht HSL
      go_wp2_with fail
      refine (unhide ht _ (unhide HSL)).mono ?_
      rintro e w2 ⟨⟨b', rfl, hnew, hrow2⟩, hb2⟩
      have zb : w.heap.size < wr.heap.size := (unhide hr).lt
      have hgt : w.heap.size < b' := by omega
      have hne : b' ≠ w.heap.size := by omega
      replace hr := hide ((unhide hr).keep hb2)
      replace hb := hide (bTr (unhide hb) hb2)
      replace hF := hide ((unhide hF).keep hb2)
      have f0 := (unhide hr).froz (k * 2)
      have f1 := (unhide hr).froz (k * 2 + 1)
      have s3 : k * 2 + 1 < C.size := by rw [unhide hC]; omega
      have g0 := (unhide hr).cell (k * 2)
      have g1 := (unhide hr).cell (k * 2 + 1)
      rw [Array.getElem?_eq_getElem (by omega)] at g0 g1
      generalize C[k * 2] = D0 at g0
      generalize C[k * 2 + 1] = D1 at g1
      clear c0 c1 hb2 ht HSL
      go_wp2_with fail
      refine ⟨⟨k + 1, setA C k A.n (.slice (some ⟨b', 0, none⟩) A.vs.length A.vs.length), by omega, by go_num, hide ?_, hide ?_, hide (by rw [size_setA]; exact unhide hC), hide ?_⟩, by simp [intOf]; omega⟩
      · exact ((unhide hb).setCell (Nat.le_refl _) _).setCell (Nat.le_refl _) _
      · exact ((unhide hr).set _ _).set _ _
      · exact unhide hF' _ _ ((unhide hF).setOther.setOther) hgt ((hrow2.setOther _ hne).setOther _ hne)
    · go_wp2_with fail
      go_ret
      have e : k = l.length := by rw [← (unhide HS).1]; omega
      exact ⟨rfl, FilledA.row (by rw [← e]; exact unhide hF) (unhide hr), unhide hb⟩
end Go.Proofs.Ythmjefmljcdpcaa
