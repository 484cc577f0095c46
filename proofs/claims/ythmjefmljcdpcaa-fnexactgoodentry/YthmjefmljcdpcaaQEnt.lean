/- laws.eqAttr, eqAttrS; entries: szEntry, toEntry, eqEntry; what came in, read. -/
import Derived.Test.YthmjefmljcdpcaaQAttr
namespace Go.Proofs.Ythmjefmljcdpcaa
open Go.ChangeShapes Go.WideShapes Go.RowKit

set_option maxHeartbeats 400000 in
theorem eqAttr_same (n : ByteArray) (vs : List ByteArray) (a1 a2 : Option Addr) (l1 c1 l2 c2 : Nat) (w : World) (h1 : SlS w a1 l1 vs) (h2 : SlS w a2 l2 vs) (hm : l1 ≤ maxLen) :
    Calls Try.prog 93 #[.agg #[.string n, .slice a1 l1 c1], .agg #[.string n, .slice a2 l2 c2]] w fun e w' => e = .returned (.bool true) ∧ Below w.heap.size w w' := by
  have q1 := hide (fun w h1 h2 => eqStringS_same a1 a2 l1 c1 l2 c2 vs w h1 h2 hm)
  have B := hide (bAl (bAl (Below.refl w.heap.size w) (.cells #[.string n, .slice a1 l1 c1] 98)) (.cells #[.string n, .slice a2 l2 c2] 98))
  have H1 := hide (h1.keep (unhide B))
  have H2 := hide (h2.keep (unhide B))
  clear h1 h2 hm
  go_enter Try.func93, Try.ntmps93
  go_wp2_with fail
  refine (unhide q1 _ (unhide H1) (unhide H2)).mono ?_
  rintro e w1 ⟨rfl, hb⟩
  replace B := hide (bTr (unhide B) hb)
  clear hb
  go_wp2_with fail
  go_ret
  exact ⟨rfl, unhide B⟩

set_option maxHeartbeats 800000 in
theorem eqAttrS_same (a1 a2 : Option Addr) (len1 c1 len2 c2 : Nat) (l : List AttrT) (w : World) (h1 : SlA w a1 len1 l) (h2 : SlA w a2 len2 l) (hm : len1 ≤ maxLen) (hok : ∀ q ∈ l, AttrT.Ok q) :
    Calls Try.prog 64 #[.slice a1 len1 c1, .slice a2 len2 c2] w fun e w' => e = .returned (.bool true) ∧ Below w.heap.size w w' := by
  unfold maxLen at hm
  obtain rfl : len1 = len2 := by rw [h1.1, h2.1]
  have H1 := hide h1
  have H2 := hide h2
  have HO := hide hok
  clear h1 h2 hok
  go_enter Try.func64, Try.ntmps64
  go_wp2
  go_loopw [5] (fun i w' => ∃ k : Nat, k ≤ len1 ∧ i = .int .i64 k ∧ Below w.heap.size w w') (fun i _ => len1 - (intOf i).toNat)
  case atStart => exact ⟨0, Nat.zero_le _, rfl, Below.refl _ _⟩
  case round =>
    obtain ⟨k, hk, rfl, hbel⟩ := hrel
    by_cases hlt : k < len1
    · have g1 := hide ((unhide H1).keep hbel)
      have g2 := hide ((unhide H2).keep hbel)
      have hk' : k < l.length := by rw [← (unhide H1).1]; exact hlt
      obtain ⟨b, off, rfl, r1⟩ := (unhide g1).at hlt
      obtain ⟨b', off', rfl, r2⟩ := (unhide g2).at hlt
      obtain ⟨p0, x1, y1, z1, p1, s1⟩ := r1.c k hk'
      obtain ⟨q0, x2, y2, z2, q1, s2⟩ := r2.c k hk'
      have zb1 := r1.z
      have zb2 := r2.z
      have hl1 : y1 ≤ maxLen := by rw [s1.1]; exact (unhide HO _ (List.getElem_mem hk')).l9
      have qe := hide (fun w (g1 : SlS w x1 y1 (l[k]'hk').vs) (g2 : SlS w x2 y2 (l[k]'hk').vs) => eqAttr_same (l[k]'hk').n (l[k]'hk').vs x1 x2 y1 z1 y2 z2 w g1 g2 hl1)
      have S1 := hide s1
      have S2 := hide s2
      clear r1 r2 g1 g2 s1 s2 hl1
      generalize l[k] = A at p0 q0 qe S1 S2
      have qk := hide (fun q : Kept wr => unhide qe q.w ((unhide S1).keep q.h) ((unhide S2).keep q.h))
      have ne : Nonempty (Kept wr) := ⟨⟨wr, Below.refl _ _⟩⟩
      have e0 := kept_cell zb1 p0
      have e1 := kept_cell zb1 p1
      have f0 := kept_cell zb2 q0
      have f1 := kept_cell zb2 q1
      have i0 : (0 : Int) ≤ (k : Int) := by omega
      have i1 : (k : Int) < (len1 : Int) := by omega
      go_wp2_with fail
      refine wp_region_kept (by kernel_rfl) (by kernel_rfl) ?_
      repeat (first
        | go_big_quiet_step ((go_at_call 93; exact kept_call (unhide qk _)))
        | quiet_step ((go_at_call 93; exact kept_call (unhide qk _))))
      refine wpQuiet_nil ?_
      rintro _ ⟨q, rfl⟩
      clear ne e0 e1 f0 f1
      obtain ⟨w3, hb3⟩ := q
      go_wp2_with fail
      exact ⟨⟨k + 1, by omega, by go_num, bTr hbel hb3⟩, by simp [intOf]; omega⟩
    · go_wp2_with fail
      go_ret
      exact ⟨rfl, hbel⟩

section
variable {H : Type} {enc : TypeId × Value → H} {w : World} {base : Nat} {sp : Nat → Bool} {held : Bool}

set_option maxRecDepth 8000 in
theorem read_attr {n : Nat} {cs : List Value} {x : DataW H × List MemPlace} (h : DataW.trod enc Try.prog w base sp held n 135 cs = some x) :
    ∃ (A : AttrT) (a : Option Addr) (len cap : Nat), cs = [.string A.n, .slice a len cap] ∧ A.Ok ∧ SlS w a len A.vs := by
  obtain ⟨xs, m, rfl, _, hlen, hx, hf⟩ := DataW.trod_struct Try.underlying135 h
  have hc : Try.prog.cellsOf 135 = 2 := by kernel_rfl
  have k9 : Try.prog.cellsOf 9 = 1 := by kernel_rfl
  have k67 : Try.prog.cellsOf 67 = 1 := by kernel_rfl
  obtain ⟨c0, c1, rfl⟩ := list2 (hlen.trans hc)
  obtain ⟨x0, x1, rfl⟩ := list2 hx
  have h0 : DataW.trod enc Try.prog w base sp held m 9 [c0] = some x0 := by have := hf 0 _ rfl; simpa [k9] using this
  have h1 : DataW.trod enc Try.prog w base sp held m 67 [c1] = some x1 := by have := hf 1 _ rfl; simpa [k67] using this
  obtain ⟨s, q2, _, ws⟩ := DataW.trod_string Try.underlying9 h0
  have g2 : ∃ a l c, c1 = .slice a l c := by
    rcases Go.Deep.open_slice Try.underlying67 h1 with ⟨hcs, _⟩ | ⟨a', len', cap', _, _, _, _, hcs, _⟩
    · simp at hcs; exact ⟨_, _, _, hcs⟩
    · simp at hcs; exact ⟨_, _, _, hcs⟩
  obtain ⟨a, l, c, rfl⟩ := g2
  obtain ⟨vs, s1, o1, m1⟩ := read_strings h1
  simp at q2
  subst q2
  exact ⟨⟨s, vs⟩, a, l, c, rfl, ⟨ws, by rw [← s1.1]; exact m1, o1⟩, s1⟩

set_option maxRecDepth 8000 in
theorem read_attrs {n len cap : Nat} {a : Option Addr} {x : DataW H × List MemPlace} (h : DataW.trod enc Try.prog w base sp held n 48 [.slice a len cap] = some x) :
    ∃ l : List AttrT, SlA w a len l ∧ (∀ q ∈ l, AttrT.Ok q) ∧ len ≤ maxLen := by
  have hc : Try.prog.cellsOf 135 = 2 := by kernel_rfl
  rcases Go.Deep.open_slice Try.underlying48 h with ⟨hcs, _⟩ | ⟨a', len', cap', m, n', D, Pl, hcs, _, hl, hm, hmm, _, hel⟩
  · simp at hcs
    obtain ⟨rfl, rfl, rfl⟩ := hcs
    exact ⟨[], ⟨rfl, .inl rfl⟩, by simp, Nat.zero_le _⟩
  · simp at hcs
    obtain ⟨rfl, rfl, rfl⟩ := hcs
    have hlm : len ≤ m := by rw [hmm]; split <;> omega
    by_cases h0 : len = 0
    · subst h0; exact ⟨[], ⟨rfl, .inl rfl⟩, by simp, Nat.zero_le _⟩
    have hspot : a'.spot = none := by
      obtain ⟨cs', h1, h2⟩ := hel 0 (by omega)
      rw [hc] at h1
      obtain ⟨A, _, _, _, rfl, _⟩ := read_attr h2
      have e0 := (World.cells?_some h1).2.2 0 (by omega)
      simp [Addr.add] at e0
      exact World.cell?_spot e0
    obtain ⟨b, off, spot⟩ := a'
    simp only at hspot
    subst hspot
    have hA : ∀ i, i < len → ∃ A : AttrT, A.Ok ∧ AttrIn w b (off + i * 2) A ∧ b < w.heap.size := by
      intro i hi
      obtain ⟨cs', h1, h2⟩ := hel i (by omega)
      rw [hc, addr_add] at h1
      obtain ⟨A, a2, l2, c2, rfl, hok, hsl⟩ := read_attr h2
      have h3 := (World.cells?_some h1).2.2
      have e0 := h3 0 (by omega)
      have e1 := h3 1 (by omega)
      rw [addr_add] at e0 e1
      exact ⟨A, hok, ⟨e0, a2, l2, c2, e1, hsl⟩, World.block_lt_of_cell? w ⟨b, off + i * 2 + 0, none⟩ e0⟩
    obtain ⟨f, hf⟩ := @Go.Deep.choose_lt AttrT ⟨⟨⟨#[]⟩, []⟩⟩ len (fun i A => A.Ok ∧ AttrIn w b (off + i * 2) A ∧ b < w.heap.size) hA
    refine ⟨(List.range len).map f, ⟨by simp, .inr ⟨b, off, rfl, (hf 0 (by omega)).2.2, fun i hi => ?_⟩⟩, ?_, by omega⟩
    · simp at hi
      have := (hf i hi).2.1
      simpa using this
    · intro q hq
      simp at hq
      obtain ⟨i, hi, rfl⟩ := hq
      exact (hf i hi).1

set_option maxRecDepth 8000 in
/-- An entry that came in. -/
theorem read_entry {r : Reach} {b0 : Nat} {v0 : Value} {d : DataW H} {p : List MemPlace} (hv : Value.okWide Try.prog w r b0 50 v0) (h : DataW.Trod enc Try.prog w base sp held 50 v0 d p) :
    ∃ (l : List PartT) (m : List AttrT) (a1 a2 : Option Addr) (l1 c1 l2 c2 : Nat), v0 = .agg #[.slice a1 l1 c1, .slice a2 l2 c2] ∧ SlP w a1 l1 l ∧ (∀ q ∈ l, PartT.Ok q) ∧ l1 ≤ maxLen ∧ SlA w a2 l2 m ∧ (∀ q ∈ m, AttrT.Ok q) ∧ l2 ≤ maxLen := by
  have hc : Try.prog.cellsOf 50 = 2 := by kernel_rfl
  have k1 : Try.prog.cellsOf 22 = 1 := by kernel_rfl
  have k2 : Try.prog.cellsOf 48 = 1 := by kernel_rfl
  obtain ⟨cs, rfl, hsz⟩ := okWide_struct Try.underlying50 hv
  obtain ⟨fuel, hf0⟩ := h
  obtain ⟨xs, m, rfl, _, hlen, hx, hf⟩ := DataW.trod_struct Try.underlying50 hf0
  obtain ⟨l⟩ := cs
  obtain ⟨c0, c1, rfl⟩ := list2 (show l.length = 2 from (by simpa using hsz.trans hc))
  obtain ⟨x0, x1, rfl⟩ := list2 hx
  have h0 : DataW.trod enc Try.prog w base sp held m 22 [c0] = some x0 := by have := hf 0 _ rfl; simpa [k1, Value.cells] using this
  have h1 : DataW.trod enc Try.prog w base sp held m 48 [c1] = some x1 := by have := hf 1 _ rfl; simpa [k2, Value.cells] using this
  have g1 : ∃ a l c, c0 = .slice a l c := by
    rcases Go.Deep.open_slice Try.underlying22 h0 with ⟨hcs, _⟩ | ⟨a', len', cap', _, _, _, _, hcs, _⟩
    · simp at hcs; exact ⟨_, _, _, hcs⟩
    · simp at hcs; exact ⟨_, _, _, hcs⟩
  have g2 : ∃ a l c, c1 = .slice a l c := by
    rcases Go.Deep.open_slice Try.underlying48 h1 with ⟨hcs, _⟩ | ⟨a', len', cap', _, _, _, _, hcs, _⟩
    · simp at hcs; exact ⟨_, _, _, hcs⟩
    · simp at hcs; exact ⟨_, _, _, hcs⟩
  obtain ⟨a1, l1, e1, rfl⟩ := g1
  obtain ⟨a2, l2, e2, rfl⟩ := g2
  obtain ⟨pl, s1, o1, m1⟩ := read_parts h0
  obtain ⟨al, s2, o2, m2⟩ := read_attrs h1
  exact ⟨pl, al, a1, a2, l1, e1, l2, e2, rfl, s1, o1, m1, s2, o2, m2⟩
end
end Go.Proofs.Ythmjefmljcdpcaa
