/- Slices of impl.Share: in memory, read, sized, copied, held against each other. -/
import Derived.Test.YtiifgkdpoaillaaDoorGBase
import Derived.ProofKit
import Derived.Deep.Slices
import Derived.Laws.MakeOwn
import Derived.OwnWalk
namespace Go.Proofs.YtiifgkdpoaillaaDoor
open Go.ChangeShapes Go.WideShapes Go.RowKit

structure ShareT where
  f0 : Int
  f1 : Int
structure ShareT.Ok (x : ShareT) : Prop where
  o0 : (Lit.int .i64 x.f0).wf = true
  o1 : (Lit.int .i64 x.f1).wf = true
def encShare (x : ShareT) : List Value := [.int .i64 x.f0, .int .i64 x.f1]
structure ShareRow (w : World) (b off : Nat) (l : List ShareT) : Prop where
  z : b < w.heap.size
  c0 : ∀ i (h : i < l.length), w.cell? ⟨b, off + i * 2, none⟩ = some (.int .i64 l[i].f0)
  c1 : ∀ i (h : i < l.length), w.cell? ⟨b, off + i * 2 + 1, none⟩ = some (.int .i64 l[i].f1)
theorem ShareRow.keep {w w1 : World} {b off : Nat} {l : List ShareT} (h : ShareRow w b off l) (hb : Below w.heap.size w w1) : ShareRow w1 b off l :=
  ⟨Nat.lt_of_lt_of_le h.z hb.size, fun i hi => cellB hb h.z (h.c0 i hi), fun i hi => cellB hb h.z (h.c1 i hi)⟩
def SlShare (w : World) (a : Option Addr) (len : Nat) (l : List ShareT) : Prop := len = l.length ∧ (l = [] ∨ ∃ b off, a = some ⟨b, off, none⟩ ∧ ShareRow w b off l)
theorem SlShare.keep {w w1 : World} {a : Option Addr} {len : Nat} {l : List ShareT} (h : SlShare w a len l) (hb : Below w.heap.size w w1) : SlShare w1 a len l :=
  ⟨h.1, by
    rcases h.2 with e | ⟨b, off, e, r⟩
    · exact .inl e
    · exact .inr ⟨b, off, e, r.keep hb⟩⟩
theorem SlShare.at {w : World} {a : Option Addr} {len : Nat} {l : List ShareT} (h : SlShare w a len l) {k : Nat} (hk : k < len) : ∃ b off, a = some ⟨b, off, none⟩ ∧ ShareRow w b off l := by
  rcases h.2 with e | e
  · rw [h.1, e] at hk; simp at hk
  · exact e
theorem bStShare {w w' : World} (h : Below w.heap.size w w') (b o : Nat) (hb : w.heap.size ≤ b) (v : Value) : Below w.heap.size w (w'.setCell ⟨b, o, none⟩ v) := h.setCell hb v
set_option maxHeartbeats 400000 in
theorem eqShare_same (f0 : Int) (f1 : Int) (w : World) :
    Calls Tryd.prog 16 #[.agg #[.int .i64 f0, .int .i64 f1], .agg #[.int .i64 f0, .int .i64 f1]] w fun e w' => e = .returned (.bool true) ∧ Below w.heap.size w w' := by
  go_enter Tryd.func16, Tryd.ntmps16
  go_wp2
  go_ret
  exact ⟨rfl, bAl (bAl (Below.refl _ _) _) _⟩
theorem info_Share : (Tryd.prog.info? 34).map (fun i => (i.zero, i.size, i.bytes)) = some (some (.agg #[.int .i64 0, .int .i64 0]), 2, 16) := by kernel_rfl
theorem make_Share (len : Nat) (w : World) (h : len ≤ 1048576) : ∃ w1 C, (Instr.makeSlice 23 (.int .i64 (len : Int)) (.int .i64 (len : Int))).run Tryd.prog w = .ok (.slice (some ⟨w.heap.size, 0, none⟩) len len) w1 ∧
    Below w.heap.size w w1 ∧ RowIs w1 w.heap.size C 34 ∧ C.size = len * 2 := by
  obtain ⟨i, h1, h2⟩ := Option.map_eq_some_iff.1 info_Share
  simp only [Prod.mk.injEq] at h2
  obtain ⟨hz, hsz, hby⟩ := h2
  have hr := run_make (P := Tryd.prog) w 23 34 i _ Tryd.underlying23 h1 hz .i64 .i64 (len : Int) (len : Int) (by omega) (by omega) (by rw [hby]; omega) (by omega)
  rw [Int.toNat_natCast, hsz] at hr
  exact ⟨_, _, hr, bAl (Below.refl _ _) _, RowIs.new _ _ _, size_madeCells _ _⟩
def FilledShare (C : Array Value) (l : List ShareT) (k : Nat) : Prop := ∀ i (h : i < l.length), i < k → C[i * 2]? = some (.int .i64 l[i].f0) ∧ C[i * 2 + 1]? = some (.int .i64 l[i].f1)
def setShare (C : Array Value) (k : Nat) (x : ShareT) : Array Value := ((C.setIfInBounds (k * 2) (.int .i64 x.f0)).setIfInBounds (k * 2 + 1) (.int .i64 x.f1))
theorem size_setShare (C : Array Value) (k : Nat) (x : ShareT) : (setShare C k x).size = C.size := by simp [setShare]
theorem FilledShare.set {C : Array Value} {l : List ShareT} {k : Nat} (h : FilledShare C l k) (hk : k < l.length) (hC : C.size = l.length * 2) : FilledShare (setShare C k l[k]) l (k + 1) := by
  intro i hi hik
  unfold setShare
  by_cases e : i = k
  · subst e
    have s0 : i * 2 < C.size := by omega
    have s1 : i * 2 + 1 < C.size := by omega
    simp [s0, s1]
  · have := h i hi (by omega)
    simp only [Array.getElem?_setIfInBounds]
    repeat rw [if_neg (by omega)]
    exact this
theorem FilledShare.row {w : World} {b : Nat} {C : Array Value} {T : TypeId} {l : List ShareT} (h : FilledShare C l l.length) (hr : RowIs w b C T) : ShareRow w b 0 l :=
  ⟨hr.lt, fun i hi => by rw [Nat.zero_add, hr.cell]; exact (h i hi hi).1, fun i hi => by rw [Nat.zero_add, hr.cell]; exact (h i hi hi).2⟩
set_option maxHeartbeats 1000000 in
theorem eqShareS_same (a1 a2 : Option Addr) (len1 c1 len2 c2 : Nat) (l : List ShareT) (w : World) (h1 : SlShare w a1 len1 l) (h2 : SlShare w a2 len2 l) (hm : len1 ≤ maxLen) :
    Calls Tryd.prog 7 #[.slice a1 len1 c1, .slice a2 len2 c2] w fun e w' => e = .returned (.bool true) ∧ Below w.heap.size w w' := by
  unfold maxLen at hm
  obtain rfl : len1 = len2 := by rw [h1.1, h2.1]
  have H1 := hide h1
  have H2 := hide h2
  clear h1 h2
  go_enter Tryd.func7, Tryd.ntmps7
  go_wp2
  go_loopw [5] (fun i w' => ∃ k : Nat, k ≤ len1 ∧ i = .int .i64 k ∧ Below w.heap.size w w') (fun i _ => len1 - (Go.RowKit.intOf i).toNat)
  case atStart => exact ⟨0, Nat.zero_le _, rfl, Below.refl _ _⟩
  case round =>
    obtain ⟨k, hk, rfl, hbel⟩ := hrel
    by_cases hlt : k < len1
    · have g1 := hide ((unhide H1).keep hbel)
      have g2 := hide ((unhide H2).keep hbel)
      have hk' : k < l.length := by rw [← (unhide H1).1]; exact hlt
      obtain ⟨b, off, rfl, r1⟩ := (unhide g1).at hlt
      obtain ⟨b', off', rfl, r2⟩ := (unhide g2).at hlt
      have p0 := r1.c0 k hk'
      have p1 := r1.c1 k hk'
      have q0 := r2.c0 k hk'
      have q1 := r2.c1 k hk'
      have z1 := r1.z
      have z2 := r2.z
      clear r1 r2 g1 g2
      generalize l[k] = A at p0 p1 q0 q1
      have ne : Nonempty (Kept wr) := ⟨⟨wr, Below.refl _ _⟩⟩
      have x0 := kept_cell z1 p0
      have x1 := kept_cell z1 p1
      have y0 := kept_cell z2 q0
      have y1 := kept_cell z2 q1
      have i0 : (0 : Int) ≤ (k : Int) := by omega
      have i1 : (k : Int) < (len1 : Int) := by omega
      go_wp2_with fail
      refine wp_region_kept (by kernel_rfl) (by kernel_rfl) ?_
      repeat (first
        | go_big_quiet_step ((go_at_call 16; exact kept_call (eqShare_same _ _ _)))
        | quiet_step ((go_at_call 16; exact kept_call (eqShare_same _ _ _))))
      refine wpQuiet_nil ?_
      rintro _ ⟨q, rfl⟩
      clear ne x0 x1 y0 y1
      obtain ⟨w3, hb3⟩ := q
      go_wp2_with fail
      exact ⟨⟨k + 1, by omega, by go_num, bTr hbel hb3⟩, by simp [Go.RowKit.intOf]; omega⟩
    · go_wp2_with fail
      go_ret
      exact ⟨rfl, hbel⟩
def SharesV (l : List ShareT) : List Value := l.flatMap encShare
theorem SharesV_snoc (l : List ShareT) (c : ShareT) : SharesV (l ++ [c]) = SharesV l ++ encShare c := by simp [SharesV]
theorem encShare_one (c : ShareT) : ∀ x ∈ encShare c, x.oneCell' = true := by
  intro x hx
  simp [encShare] at hx
  rcases hx with rfl | rfl <;> rfl
theorem SharesV_get : ∀ (l : List ShareT) (i : Nat) (h : i < l.length) (j : Nat) (v : Value), (encShare l[i])[j]? = some v → (SharesV l)[i * 2 + j]? = some v
  | [], i, h, _, _, _ => absurd h (Nat.not_lt_zero _)
  | c :: l, 0, _, j, v, hv => by
    have hj := (List.getElem?_eq_some_iff.1 hv).1
    have e : SharesV (c :: l) = encShare c ++ SharesV l := by simp [SharesV]
    rw [e, List.getElem?_append_left (by simpa using hj)]
    simpa using hv
  | c :: l, i + 1, h, j, v, hv => by
    have e : SharesV (c :: l) = encShare c ++ SharesV l := by simp [SharesV]
    have hl : (encShare c).length = 2 := rfl
    rw [e, List.getElem?_append_right (by rw [hl]; omega), hl, show (i + 1) * 2 + j - 2 = i * 2 + j by omega]
    exact SharesV_get l i (by simpa using h) j v (by simpa using hv)
theorem own_Share {w : World} {base : Nat} {v : Value} {l : List ShareT} (h : w.ownsRow base 34 2 v l.length (SharesV l)) : ∃ a cap, v = .slice a l.length cap ∧ SlShare w a l.length l := by
  rcases h.2 with ⟨rfl, e⟩ | ⟨g, cap, cur, rfl, _, hh, _, _, hsz, htk⟩
  · have : l = [] := List.length_eq_zero_iff.1 e
    subst this
    exact ⟨none, 0, rfl, rfl, .inl rfl⟩
  · have hr : RowIs w g cur 34 := hh
    have hc : ∀ i (hi : i < l.length) j u, (encShare l[i])[j]? = some u → w.cell? ⟨g, 0 + i * 2 + j, none⟩ = some u := fun i hi j u hu => by
      have hu2 := SharesV_get l i hi j u hu
      rw [← htk, List.getElem?_take] at hu2
      rw [Nat.zero_add, hr.cell, ← Array.getElem?_toList]
      split at hu2
      · exact hu2
      · cases hu2
    exact ⟨_, _, rfl, rfl, .inr ⟨g, 0, rfl, hr.lt, fun i hi => hc i hi 0 _ rfl, fun i hi => hc i hi 1 _ rfl⟩⟩
theorem eqOwnShare {w : World} {b1 b2 : Nat} {v1 v2 : Value} {l : List ShareT} (h1 : w.ownsRow b1 34 2 v1 l.length (SharesV l)) (h2 : w.ownsRow b2 34 2 v2 l.length (SharesV l)) (hl : l.length ≤ 1000000) :
    Calls Tryd.prog 7 #[v1, v2] w fun e w' => e = .returned (.bool true) ∧ Below w.heap.size w w' := by
  obtain ⟨a1, c1, rfl, s1⟩ := own_Share h1
  obtain ⟨a2, c2, rfl, s2⟩ := own_Share h2
  exact eqShareS_same a1 a2 l.length c1 l.length c2 l w s1 s2 (by unfold maxLen; omega)
theorem listnShare {α : Type} {l : List α} (h : l.length = 2) : ∃ a0 a1, l = [a0, a1] := by
  match l, h with
  | [a0, a1], _ => exact ⟨a0, a1, rfl⟩
section
variable {H : Type} {enc : TypeId × Value → H} {w : World} {base : Nat} {sp : Nat → Bool} {held : Bool}
theorem addr_Share (b off k : Nat) : (⟨b, off, none⟩ : Addr).add k = ⟨b, off + k, none⟩ := by
  unfold Addr.add; split <;> simp_all
end
end Go.Proofs.YtiifgkdpoaillaaDoor
