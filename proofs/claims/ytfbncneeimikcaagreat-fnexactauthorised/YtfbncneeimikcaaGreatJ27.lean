/- OKb, OIn, one behind the other. -/
import Derived.Test.YtfbncneeimikcaaGreatJ26
import Derived.Test.YtfbncneeimikcaaGreatJ8
/- Keys in order of big sets, and of nil maps of numbers. -/
namespace Go.Proofs.YtfbncneeimikcaaGreat
open Go.RowKit Go.Maps Go.Shelf
set_option linter.unusedSimpArgs false
set_option linter.unusedVariables false

set_option maxHeartbeats 1000000 in
theorem keysSet_big (b n : Nat) (m : Bs → Option Value) (w : World) (hm : KM Tryz.prog 9 Value.string w b n m) (hn : n ≤ 1000000) :
    Calls Tryz.prog 33 #[.map (some b)] w fun e w' => (∃ (v : Value) (r : List Bs), e = .returned v ∧ RisS r ∧ (∀ x, x ∈ r ↔ x.size ≤ maxLen ∧ (m x).isSome = true) ∧ r.length ≤ n ∧ w'.ownsRow w.heap.size 9 1 v r.length (r.map Value.string)) ∧ Below w.heap.size w w' := by
  obtain ⟨D, hown, hD⟩ := hm
  have hbl := hown.lt
  have hsz := hown.size_le
  obtain ⟨k1, k2, k3⟩ := keys_spec hown
  obtain ⟨W, hW⟩ : ∃ W, W = w.alloc (.cells #[.map (some b)] 77) := ⟨_, rfl⟩
  have hseq : SeqGives Fence.wide 2 Tryz.prog 95 #[.pointer (some ⟨w.heap.size, 0, none⟩)] encStr (fun ss => ss.Perm (strKeys D)) (Maps.size D) W := by
    rw [hW]
    exact AnyZ.keys_gives (ρ := Tryz.keys66_ren) { Tryz.keys66 with } Fence.wide _ trivial rfl (by omega) w.heap.size b n D _ (by simp) (by simp) (by
      obtain ⟨es, clock, hb, Ft, hs, hD⟩ := hown
      exact ⟨es, clock, (Below.heap_alloc _ _ b hbl).trans hb, Ft, hs, hD⟩)
  have qs := hide ((callsIn_wide (n := 5)).1 (AnyZ.sorted_in Tryz.sorted65 Fence.wide 5 trivial trivial trivial trivial rfl (by omega) (sorts107 _) (enters_of Tryz.func94 (by kernel_rfl) rfl) 95 #[.pointer (some ⟨w.heap.size, 0, none⟩)] trivial (enters_of Tryz.func95 (by kernel_rfl) rfl) _ _ (by unfold maxLen; omega) (by omega) _ hseq))
  have B0 := hide (show Below w.heap.size w W by rw [hW]; exact bAl (Below.refl _ _) _)
  have HW := hide hW.symm
  have F := hide (show ∀ (v : Value) (ss : List (List UInt8)) (w' : World), ss.Perm (strKeys D) → w'.ownsRow W.heap.size 9 1 v ss.length ((ss.mergeSort (fun x y => decide (x ≤ y))).map encStr) → ∃ r : List Bs, RisS r ∧ (∀ x, x ∈ r ↔ x.size ≤ maxLen ∧ (m x).isSome = true) ∧ r.length ≤ n ∧ w'.ownsRow w.heap.size 9 1 v r.length (r.map Value.string) from fun v ss w' hp ho => by
    have hnd : ss.Nodup := hp.nodup_iff.2 k1
    have pm := List.mergeSort_perm ss fun x y => decide (x ≤ y)
    refine ⟨_, sort_ris hnd, fun x => ?_, ?_, ?_⟩
    · rw [List.mem_map]
      constructor
      · rintro ⟨y, hy, rfl⟩
        have h1 := (hp.mem_iff).1 (pm.mem_iff.1 hy)
        have h2 := (k2 y).1 h1
        have h3 := k3 y h1
        have h4 : ((⟨y.toArray⟩ : ByteArray)).size ≤ maxLen := by show y.toArray.size ≤ _; simpa using h3
        refine ⟨h4, ?_⟩
        have h5 := (hD ⟨y.toArray⟩ _ (WideMaps.keyOf_string_mk Tryz.underlying9 h4)).1
        rw [← h5]
        simpa using h2
      · rintro ⟨h4, h5⟩
        refine ⟨x.data.toList, pm.mem_iff.2 (hp.mem_iff.2 ((k2 _).2 ?_)), by simp⟩
        rw [(hD x _ (WideMaps.keyOf_string_mk Tryz.underlying9 h4)).1]; exact h5
    · rw [List.length_map, pm.length_eq, hp.length_eq]
      refine Nat.le_trans (Nat.le_of_eq ?_) hsz
      obtain ⟨es, rfl, _⟩ := hown.keysOf
      simp [strKeys, Maps.size]
    · have e1 : ((ss.mergeSort fun x y => decide (x ≤ y)).map fun x => (⟨x.toArray⟩ : ByteArray)).length = ss.length := by rw [List.length_map, pm.length_eq]
      have e2 : ((ss.mergeSort fun x y => decide (x ≤ y)).map fun x => (⟨x.toArray⟩ : ByteArray)).map Value.string = (ss.mergeSort fun x y => decide (x ≤ y)).map encStr := by rw [List.map_map]; rfl
      rw [e1, e2]
      have hz := (unhide B0).size
      refine ⟨ho.1, ho.2.imp_right ?_⟩
      rintro ⟨g, cap, cur, h1, h2, h3⟩
      exact ⟨g, cap, cur, h1, by omega, h3⟩)
  clear hseq hW hown hD k1 k2 k3
  go_enter Tryz.func33, Tryz.ntmps33
  go_wp2_with fail
  refine (mapsKeysSet (some b) _).mono ?_
  rintro e w1 ⟨rfl, rfl⟩
  rw [unhide HW]
  go_wp2_with fail
  refine (unhide qs).mono ?_
  rintro e w2 ⟨v, ss, rfl, hp, ho, _, hb⟩
  have FN := hide (unhide F v ss w2 hp ho)
  have B2 := hide (bTr (unhide B0) hb)
  clear hp ho hb F qs HW
  go_wp2_with fail
  go_ret
  obtain ⟨r, h1, h2, h3, h4⟩ := unhide FN
  exact ⟨⟨v, r, rfl, h1, h2, h3, h4⟩, unhide B2⟩

theorem keysInt_nil (w : World) :
    Calls Tryz.prog 68 #[.map none] w fun e w' => (∃ v, e = .returned v ∧ w'.ownsRow w.heap.size 9 1 v 0 []) ∧ Below w.heap.size w w' := by
  obtain ⟨W, hW⟩ : ∃ W, W = w.alloc (.cells #[.map none] 130) := ⟨_, rfl⟩
  have hseq : SeqGives Fence.wide 2 Tryz.prog 117 #[.pointer (some ⟨w.heap.size, 0, none⟩)] encStr (fun ss => ss = []) 0 W := by
    rw [hW]
    exact AnyZ.keys_gives_nil (ρ := Tryz.keys97_ren) { Tryz.keys97 with } Fence.wide _ trivial rfl w.heap.size _ (by simp) (by simp)
  have qs := hide ((callsIn_wide (n := 5)).1 (AnyZ.sorted_in Tryz.sorted65 Fence.wide 5 trivial trivial trivial trivial rfl (by omega) (sorts107 _) (enters_of Tryz.func94 (by kernel_rfl) rfl) 117 #[.pointer (some ⟨w.heap.size, 0, none⟩)] trivial (enters_of Tryz.func117 (by kernel_rfl) rfl) _ _ (by unfold maxLen; omega) (by omega) _ hseq))
  have B0 := hide (show Below w.heap.size w W by rw [hW]; exact bAl (Below.refl _ _) _)
  have HW := hide hW.symm
  clear hseq hW
  go_enter Tryz.func68, Tryz.ntmps68
  go_wp2_with fail
  refine (mapsKeysInt none _).mono ?_
  rintro e w1 ⟨rfl, rfl⟩
  rw [unhide HW]
  go_wp2_with fail
  refine (unhide qs).mono ?_
  rintro e w2 ⟨v, ss, rfl, hp, ho, _, hb⟩
  have FN : Hid (w2.ownsRow w.heap.size 9 1 v 0 []) := hide (by
    subst hp
    have h3 : w2.ownsRow W.heap.size 9 1 v ([] : List (List UInt8)).length ((([] : List (List UInt8)).mergeSort (fun x y => decide (x ≤ y))).map encStr) := ho
    have h2 : w2.ownsRow W.heap.size 9 1 v 0 [] := by simpa using h3
    have hz := (unhide B0).size
    refine ⟨h2.1, h2.2.imp_right ?_⟩
    rintro ⟨g, cap, cur, h1, h2, h3⟩
    exact ⟨g, cap, cur, h1, by omega, h3⟩)
  have B2 := hide (bTr (unhide B0) hb)
  clear hp ho hb qs HW
  go_wp2_with fail
  go_ret
  exact ⟨⟨v, rfl, unhide FN⟩, unhide B2⟩
end Go.Proofs.YtfbncneeimikcaaGreat
/- Slices of ints in memory: sized, copied, held against themselves, read. -/
namespace Go.Proofs.YtfbncneeimikcaaGreat.V
set_option linter.unusedSimpArgs false
set_option linter.unusedVariables false
open Go.ChangeShapes Go.WideShapes Go.RowKit

structure IntRow (w : World) (b off : Nat) (l : List Int) : Prop where
  z : b < w.heap.size
  c : ∀ i (h : i < l.length), w.cell? ⟨b, off + i, none⟩ = some (.int .i64 l[i])
theorem IntRow.keep {w w1 : World} {b off : Nat} {l : List Int} (h : IntRow w b off l) (hb : Below w.heap.size w w1) : IntRow w1 b off l :=
  ⟨Nat.lt_of_lt_of_le h.z hb.size, fun i hi => cellB hb h.z (h.c i hi)⟩

def SlI (w : World) (a : Option Addr) (len : Nat) (l : List Int) : Prop := len = l.length ∧ (l = [] ∨ ∃ b off, a = some ⟨b, off, none⟩ ∧ IntRow w b off l)
theorem SlI.keep {w w1 : World} {a : Option Addr} {len : Nat} {l : List Int} (h : SlI w a len l) (hb : Below w.heap.size w w1) : SlI w1 a len l :=
  ⟨h.1, by
    rcases h.2 with e | ⟨b, off, e, r⟩
    · exact .inl e
    · exact .inr ⟨b, off, e, r.keep hb⟩⟩
theorem SlI.at {w : World} {a : Option Addr} {len : Nat} {l : List Int} (h : SlI w a len l) {k : Nat} (hk : k < len) : ∃ b off, a = some ⟨b, off, none⟩ ∧ IntRow w b off l := by
  rcases h.2 with e | e
  · rw [h.1, e] at hk; simp at hk
  · exact e

def FilledI (C : Array Value) (l : List Int) (k : Nat) : Prop := ∀ i (h : i < l.length), i < k → C[i]? = some (.int .i64 l[i])
theorem FilledI.set {C : Array Value} {l : List Int} {k : Nat} (h : FilledI C l k) (hk : k < l.length) (hC : C.size = l.length) : FilledI (C.setIfInBounds k (.int .i64 l[k])) l (k + 1) := by
  intro i hi hik
  by_cases e : i = k
  · subst e
    have s0 : i < C.size := by omega
    simp [s0]
  · have := h i hi (by omega)
    rw [Array.getElem?_setIfInBounds, if_neg (by omega)]
    exact this
theorem FilledI.row {w : World} {b : Nat} {C : Array Value} {T : TypeId} {l : List Int} (h : FilledI C l l.length) (hr : RowIs w b C T) : IntRow w b 0 l :=
  ⟨hr.lt, fun i hi => by rw [Nat.zero_add, hr.cell]; exact h i hi hi⟩
theorem make_ints (len : Nat) (w : World) (h : len ≤ 1048576) : ∃ w1 C, (Instr.makeSlice 27 (.int .i64 (len : Int)) (.int .i64 (len : Int))).run Tryz.prog w = .ok (.slice (some ⟨w.heap.size, 0, none⟩) len len) w1 ∧
    Below w.heap.size w w1 ∧ RowIs w1 w.heap.size C 3 ∧ C.size = len := by
  have hi : (Tryz.prog.info? 3).map (fun i => (i.zero, i.size, i.bytes)) = some (some (.int .i64 0), 1, 8) := by kernel_rfl
  obtain ⟨i, h1, h2⟩ := Option.map_eq_some_iff.1 hi
  simp only [Prod.mk.injEq] at h2
  obtain ⟨hz, hsz, hby⟩ := h2
  have hr := run_make (P := Tryz.prog) w 27 3 i _ Tryz.underlying27 h1 hz .i64 .i64 (len : Int) (len : Int) (by omega) (by omega) (by rw [hby]; omega) (by omega)
  rw [Int.toNat_natCast, hsz, Nat.mul_one] at hr
  exact ⟨_, _, hr, bAl (Below.refl _ _) _, RowIs.new _ _ _, size_madeCells _ _⟩

set_option maxHeartbeats 400000 in
theorem toIntS_f (a : Option Addr) (len cap : Nat) (l : List Int) (w : World) (hl : len ≤ 1048576) (hs : SlI w a len l) :
    Calls Tryz.prog 29 #[.slice a len cap] w fun e w' => e = .returned (.slice (some ⟨w.heap.size, 0, none⟩) len len) ∧ IntRow w' w.heap.size 0 l ∧ (∀ o, w'.frozen? ⟨w.heap.size, o, none⟩ = false) ∧ Below w.heap.size w w' := by
  obtain ⟨w1, C1, hrun, hb1, hr1, hC1⟩ := make_ints len w hl
  have HS := hide hs
  have HB1 := hide hb1
  have HR1 := hide hr1
  clear hs hb1 hr1
  go_enter Tryz.func29, Tryz.ntmps29
  go_wp2
  clear hrun
  go_loopw [4] (fun i w' => ∃ (k : Nat) (C : Array Value), k ≤ len ∧ i = .int .i64 k ∧ Hid (Below w.heap.size w w') ∧ Hid (RowIs w' w.heap.size C 3) ∧ Hid (C.size = len) ∧ Hid (FilledI C l k)) (fun i _ => len - (intOf i).toNat)
  case atStart => exact ⟨0, C1, Nat.zero_le _, rfl, HB1, HR1, hide hC1, hide (fun i _ h => absurd h (Nat.not_lt_zero _))⟩
  case round =>
    obtain ⟨k, C, hk, rfl, hb, hr, hC, hF⟩ := hrel
    by_cases hlt : k < len
    · obtain ⟨b, off, rfl, hrow⟩ := ((unhide HS).keep (unhide hb)).at hlt
      have hk' : k < l.length := by rw [← (unhide HS).1]; exact hlt
      have c0 := hrow.c k hk'
      have fr := (unhide hr).froz k
      have hck : k < C.size := by rw [unhide hC]; exact hlt
      have c1 := (unhide hr).cell k
      rw [Array.getElem?_eq_getElem hck] at c1
      have hz : w.heap.size < wr.heap.size := (unhide hr).lt
      have hF' := hide ((unhide hF).set hk' (by rw [unhide hC]; exact (unhide HS).1))
      clear hrow hC1
      generalize l[k] = A at c0 hF'
      generalize C[k] = D at c1
      go_wp2_with fail
      exact ⟨⟨k + 1, C.setIfInBounds k (.int .i64 A), by omega, by go_num, hide ((unhide hb).setCell (Nat.le_refl _) _), hide ((unhide hr).set k _), hide (by rw [Array.size_setIfInBounds]; exact unhide hC), hF'⟩, by simp [intOf]; omega⟩
    · go_wp2_with fail
      go_ret
      have e : k = l.length := by rw [← (unhide HS).1]; omega
      exact ⟨rfl, FilledI.row (by rw [← e]; exact unhide hF) (unhide hr), fun o => (unhide hr).froz o, unhide hb⟩
set_option maxHeartbeats 400000 in
theorem eqIntS_same (a1 a2 : Option Addr) (len1 c1 len2 c2 : Nat) (l : List Int) (w : World) (h1 : SlI w a1 len1 l) (h2 : SlI w a2 len2 l) (hm : len1 ≤ maxLen) :
    Calls Tryz.prog 37 #[.slice a1 len1 c1, .slice a2 len2 c2] w fun e w' => e = .returned (.bool true) ∧ Below w.heap.size w w' := by
  unfold maxLen at hm
  obtain rfl : len1 = len2 := by rw [h1.1, h2.1]
  have H1 := hide h1
  have H2 := hide h2
  clear h1 h2
  go_enter Tryz.func37, Tryz.ntmps37
  go_wp2
  go_loopw [5] (fun i w' => ∃ k : Nat, k ≤ len1 ∧ i = .int .i64 k ∧ Below w.heap.size w w') (fun i _ => len1 - (intOf i).toNat)
  case atStart => exact ⟨0, Nat.zero_le _, rfl, Below.refl _ _⟩
  case round =>
    obtain ⟨k, hk, rfl, hbel⟩ := hrel
    by_cases hlt : k < len1
    · have g1 := hide ((unhide H1).keep hbel)
      have g2 := hide ((unhide H2).keep hbel)
      have hk' : k < l.length := by rw [← (unhide H1).1]; exact hlt
      obtain ⟨b, off, rfl, r1⟩ := (unhide g1).at hlt
      obtain ⟨b', off', rfl, r2⟩ := (unhide g2).at hlt
      have p1 := r1.c k hk'
      have p2 := r2.c k hk'
      clear r1 r2 g1 g2
      generalize l[k] = A at p1 p2
      have i0 : (0 : Int) ≤ (k : Int) := by omega
      have i1 : (k : Int) < (len1 : Int) := by omega
      go_wp2_with fail
      go_quiet (fail)
      go_wp2_with fail
      exact ⟨⟨k + 1, by omega, by go_num, below_drewN hbel _⟩, by simp [intOf]; omega⟩
    · go_wp2_with fail
      go_ret
      exact ⟨rfl, hbel⟩

set_option maxHeartbeats 400000 in
theorem szIntS_any (a : Option Addr) (len cap : Nat) (left : Int) (w : World) (h0 : 0 ≤ left) (h1 : left ≤ 1048576) (hl : len ≤ maxLen) :
    Calls Tryz.prog 20 #[.slice a len cap, .int .i64 left] w fun e w' => (∃ m : Int, -1 ≤ m ∧ m ≤ left ∧ (0 ≤ m → (len : Int) ≤ left) ∧ e = .returned (.int .i64 m)) ∧ Below w.heap.size w w' := by
  unfold maxLen at hl
  by_cases hlen : left < (len : Int)
  · have d1 : decide (left - (len : Int) < 0) = true := by simp; omega
    go_enter Tryz.func20, Tryz.ntmps20
    go_wp2
    go_ret
    exact ⟨⟨-1, by omega, by omega, by omega, rfl⟩, Below.refl _ _⟩
  have d1 : decide (left - (len : Int) < 0) = false := by simp; omega
  go_enter Tryz.func20, Tryz.ntmps20
  go_wp2
  go_ret
  exact ⟨⟨left - len, by omega, by omega, rfl⟩, Below.refl _ _⟩
theorem IntRow.fr {w w1 : World} {lo b off : Nat} {l : List Int} (h : IntRow w b off l) (hf : Fr lo w w1) (hb : lo ≤ b) : IntRow w1 b off l :=
  ⟨Nat.lt_of_lt_of_le h.z hf.size, fun i hi => hf.cell _ _ _ hb (h.c i hi)⟩
def SqI (w : World) (lo : Nat) (h : Hd) (l : List Int) : Prop := h.len = l.length ∧ (l = [] ∨ ∃ b off, h.a = some ⟨b, off, none⟩ ∧ Lo w lo b ∧ IntRow w b off l)
theorem SqI.fr {w w1 : World} {lo : Nat} {h : Hd} {l : List Int} (s : SqI w lo h l) (hf : Fr lo w w1) : SqI w1 lo h l :=
  ⟨s.1, s.2.imp id fun ⟨b, off, e, hb, r⟩ => ⟨b, off, e, hb.fr hf r.z, r.fr hf hb.1⟩⟩
theorem SqI.lo {w : World} {lo lo' : Nat} {h : Hd} {l : List Int} (s : SqI w lo h l) (hl : lo' ≤ lo) : SqI w lo' h l :=
  ⟨s.1, s.2.imp id fun ⟨b, off, e, hb, r⟩ => ⟨b, off, e, hb.lo hl, r⟩⟩
theorem SqI.keep {w w1 : World} {lo : Nat} {h : Hd} {l : List Int} (s : SqI w lo h l) (hb : Below w.heap.size w w1) : SqI w1 lo h l := s.fr (Fr.below hb lo)
theorem SqI.sl {w : World} {lo : Nat} {h : Hd} {l : List Int} (s : SqI w lo h l) : SlI w h.a h.len l :=
  ⟨s.1, s.2.imp id fun ⟨b, off, e, _, r⟩ => ⟨b, off, e, r⟩⟩
theorem SqI.of {w : World} {a : Option Addr} {len cap : Nat} {l : List Int} (s : SlI w a len l) : SqI w 0 ⟨a, len, cap⟩ l :=
  ⟨s.1, s.2.imp id fun ⟨b, off, e, r⟩ => ⟨b, off, e, Lo.zero _ _, r⟩⟩
theorem szIntS_n (h : Hd) (l : List Int) (left : Int) (w : World) (h0 : 0 ≤ left) (h1 : left ≤ 1048576) (ho : ∀ q ∈ l, q = q) (hl : l.length ≤ maxLen) (hs : SqI w 0 h l) :
    Calls Tryz.prog 20 #[.slice h.a h.len h.cap, .int .i64 left] w fun e w' => (∃ m : Int, -1 ≤ m ∧ m ≤ left ∧ (0 ≤ m → l.length ≤ 1048576) ∧ e = .returned (.int .i64 m)) ∧ Below w.heap.size w w' :=
  (szIntS_any h.a h.len h.cap left w h0 h1 (by rw [hs.1]; exact hl)).mono fun _ _ ⟨⟨m, a, b, c, d⟩, k⟩ => ⟨⟨m, a, b, fun g => by have := c g; rw [hs.1] at this; omega, d⟩, k⟩
theorem toIntS_n (h : Hd) (l : List Int) (w : World) (hl : l.length ≤ 1048576) (hs : SqI w 0 h l) :
    Calls Tryz.prog 29 #[.slice h.a h.len h.cap] w fun e w' => (∃ h' : Hd, e = .returned (.slice h'.a h'.len h'.cap) ∧ SqI w' w.heap.size h' l) ∧ Below w.heap.size w w' :=
  (toIntS_f h.a h.len h.cap l w (by rw [hs.1]; exact hl) hs.sl).mono fun _ _ ⟨e, r, f, b⟩ => ⟨⟨⟨_, h.len, h.len⟩, e, hs.1, .inr ⟨_, _, rfl, Lo.own f, r⟩⟩, b⟩
theorem eqIntS_n (h g : Hd) (l : List Int) (w : World) (hl : l.length ≤ maxLen) (h1 : SqI w 0 h l) (h2 : SqI w 0 g l) :
    Calls Tryz.prog 37 #[.slice h.a h.len h.cap, .slice g.a g.len g.cap] w fun e w' => e = .returned (.bool true) ∧ Below w.heap.size w w' :=
  eqIntS_same h.a g.a h.len h.cap g.len g.cap l w h1.sl h2.sl (by rw [h1.1]; exact hl)
section
variable {H : Type} {enc : TypeId × Value → H} {w : World} {base : Nat} {sp : Nat → Bool} {held : Bool}
set_option maxRecDepth 40000 in
theorem read_ints {n len cap : Nat} {a : Option Addr} {x : DataW H × List MemPlace} (h : DataW.trod enc Tryz.prog w base sp held n 27 [.slice a len cap] = some x) :
    ∃ l : List Int, SlI w a len l ∧ (∀ q ∈ l, q = q) ∧ len ≤ maxLen := by
  have hc : Tryz.prog.cellsOf 3 = 1 := by kernel_rfl
  rcases Go.Deep.open_slice Tryz.underlying27 h with ⟨hcs, _⟩ | ⟨a', len', cap', m, n', D, Pl, hcs, _, hl, hm, hmm, _, hel⟩
  · simp at hcs
    obtain ⟨rfl, rfl, rfl⟩ := hcs
    exact ⟨[], ⟨rfl, .inl rfl⟩, by simp, Nat.zero_le _⟩
  · simp at hcs
    obtain ⟨rfl, rfl, rfl⟩ := hcs
    have hlm : len ≤ m := by rw [hmm]; split <;> omega
    by_cases h0 : len = 0
    · subst h0; exact ⟨[], ⟨rfl, .inl rfl⟩, by simp, Nat.zero_le _⟩
    have hspot : a'.spot = none := by
      obtain ⟨cs', h1, h2⟩ := hel 0 (by omega)
      rw [hc] at h1
      obtain ⟨s, rfl, _⟩ := DataW.trod_int Tryz.underlying3 h2
      have e0 := (World.cells?_some h1).2.2 0 (by omega)
      simp [Addr.add] at e0
      exact World.cell?_spot e0
    obtain ⟨b, off, spot⟩ := a'
    simp only at hspot
    subst hspot
    have hA : ∀ i, i < len → ∃ A : Int, A = A ∧ w.cell? ⟨b, off + i, none⟩ = some (.int .i64 A) ∧ b < w.heap.size := by
      intro i hi
      obtain ⟨cs', h1, h2⟩ := hel i (by omega)
      rw [hc, addr_add, Nat.mul_one] at h1
      obtain ⟨s, rfl, _⟩ := DataW.trod_int Tryz.underlying3 h2
      have e0 := (World.cells?_some h1).2.2 0 (by omega)
      rw [addr_add] at e0
      exact ⟨s, rfl, e0, World.block_lt_of_cell? w ⟨b, off + i + 0, none⟩ e0⟩
    obtain ⟨f, hf⟩ := @Go.Deep.choose_lt Int ⟨0⟩ len (fun i A => A = A ∧ w.cell? ⟨b, off + i, none⟩ = some (.int .i64 A) ∧ b < w.heap.size) hA
    refine ⟨(List.range len).map f, ⟨by simp, .inr ⟨b, off, rfl, (hf 0 (by omega)).2.2, fun i hi => ?_⟩⟩, ?_, by omega⟩
    · simp at hi
      have := (hf i hi).2.1
      simpa using this
    · intro q hq
      simp at hq
      obtain ⟨i, hi, rfl⟩ := hq
      rfl

theorem readsI {n len cap : Nat} {a : Option Addr} {x : DataW H × List MemPlace} (h : DataW.trod enc Tryz.prog w base sp held n 27 [.slice a len cap] = some x) :
    ∃ l : List Int, SqI w 0 ⟨a, len, cap⟩ l ∧ (∀ q ∈ l, q = q) ∧ l.length ≤ maxLen := by
  obtain ⟨l, s, o, m⟩ := read_ints h
  exact ⟨l, .of s, o, by rw [← s.1]; exact m⟩
end
end Go.Proofs.YtfbncneeimikcaaGreat.V
