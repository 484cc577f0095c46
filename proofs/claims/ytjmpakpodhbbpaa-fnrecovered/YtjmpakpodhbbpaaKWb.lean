/- Recoveries: pure; their state in memory; the rules. -/
import Derived.Test.YtjmpakpodhbbpaaKWa
import Derived.Test.YtjmpakpodhbbpaaGMap
import Derived.Test.YtjmpakpodhbbpaaQRow
import Derived.Test.YtjmpakpodhbbpaaQKept
import Derived.BigQuiet
namespace Go.Proofs.Ytjmpakpodhbbpaa
set_option linter.unusedSimpArgs false
set_option linter.unusedVariables false
set_option maxRecDepth 20000
open Go.RowKit Go.Maps


/-- A recovery: what it was asked with, and its state. -/
structure RcT where
  need : Int
  delay : Int
  H : List ByteArray
  now : Int
  under : Bool
  ready : Int
  votes : List ByteArray
  ha : Option Addr
  hl : Nat
  hc : Nat
def memB (l : List ByteArray) (s : ByteArray) : Bool := l.any fun x => x.data.toList == s.data.toList
theorem memB_iff {l : List ByteArray} {s : ByteArray} : memB l s = true ↔ s ∈ l := by
  unfold memB
  rw [List.any_eq_true]
  constructor
  · rintro ⟨x, hx, e⟩
    have e2 : x.data.toList = s.data.toList := by simpa using e
    have : x = s := ByteArray.ext (Array.toList_inj.1 e2)
    exact this ▸ hx
  · intro h; exact ⟨s, h, by simp⟩
def unfE (k t : Int) (s : ByteArray) : Bool := !(decide (1 ≤ k ∧ k ≤ 4)) || !(decide (0 ≤ t ∧ t ≤ 100000000000)) || (!(s.toList == []) && !(k == 2))
/-- What the rules say, in their order. -/
def rcB (x : RcT) (k t : Int) (s : ByteArray) (i : Nat) : Bool :=
  if i = 0 then unfE k t s else if i = 1 then decide (t < x.now) else if i = 2 then x.under == (k == 1) else if i = 3 then (k == 2) && !(memB x.H s)
  else if i = 4 then (k == 2) && memB x.votes s else if i = 5 then (k == 4) && decide ((x.votes.length : Int) < x.need) else (k == 4) && decide (t < x.ready)
def firstB : List Bool → Int
  | [] => 0
  | b :: l => if b then 1 else if firstB l = 0 then 0 else firstB l + 1
def rcFault (x : RcT) (k t : Int) (s : ByteArray) : Int := firstB [rcB x k t s 0, rcB x k t s 1, rcB x k t s 2, rcB x k t s 3, rcB x k t s 4, rcB x k t s 5, rcB x k t s 6]
def rcNext (x : RcT) (k t : Int) (s : ByteArray) : RcT :=
  if rcFault x k t s ≠ 0 then x else if k = 1 then { x with now := t, under := true, ready := t + x.delay, votes := [] } else if k = 2 then { x with now := t, votes := x.votes ++ [s] } else { x with now := t, under := false }
theorem firstB_all {l : List Bool} (h : ∀ b ∈ l, b = false) : firstB l = 0 := by
  induction l with
  | nil => rfl
  | cons b l ih =>
    have h0 := h b (by simp)
    subst h0
    simp [firstB, ih (fun b hb => h b (List.mem_cons_of_mem _ hb))]
theorem firstB_at : ∀ {l : List Bool} {i : Nat} (hi : i < l.length), l[i] = true → (∀ j (h : j < l.length), j < i → l[j] = false) → firstB l = i + 1
  | [], i, hi, _, _ => by cases hi
  | b :: l, 0, _, h, _ => by simp at h; simp [firstB, h]
  | b :: l, i + 1, hi, h, hj => by
    have h0 := hj 0 (by simp) (by omega)
    simp at h0
    subst h0
    have ih := firstB_at (l := l) (i := i) (by simpa using hi) (by simpa using h) (fun j h2 h3 => by have := hj (j + 1) (by simpa using h2) (by omega); simpa using this)
    simp only [firstB, Bool.false_eq_true, if_false, ih]
    rw [if_neg (by omega)]
    push_cast
    rfl
/-- A map that holds the votes, told once each. -/
def chV (l : List ByteArray) (y : ByteArray) : Option Value := if memB l y = true then some (.agg #[]) else none
def VM (w : World) (b : Nat) (l : List ByteArray) : Prop := ∃ D : DataW Value, w.ownsMap Try.prog 9 hvR b l.length D ∧ KD Try.prog 9 Value.string D (chV l) ∧ Maps.size D = l.length
theorem VM.km {w : World} {b : Nat} {l : List ByteArray} (h : VM w b l) : KM Try.prog 9 Value.string w b l.length (chV l) := by
  obtain ⟨D, h1, h2, _⟩ := h; exact ⟨D, h1, h2⟩
theorem VM.lt {w : World} {b : Nat} {l : List ByteArray} (h : VM w b l) : b < w.heap.size := h.km.lt
theorem VM.block {w w' : World} {b : Nat} {l : List ByteArray} (h : VM w b l) (hb : w'.heap[b]? = w.heap[b]?) : VM w' b l := by
  obtain ⟨D, ⟨es, cl, h1, h2⟩, hD, hs⟩ := h; exact ⟨D, ⟨es, cl, by rw [hb]; exact h1, h2⟩, hD, hs⟩
theorem VM.keep {w w' : World} {b : Nat} {l : List ByteArray} (h : VM w b l) (hb : Below w.heap.size w w') : VM w' b l := h.block (hb.block b h.lt)
theorem VM.made (w : World) : VM (w.alloc (.map #[] 0)) w.heap.size [] := by
  refine ⟨.map [], World.ownsMap_made _ _ _ _, ?_, rfl⟩
  intro x kl hx
  refine ⟨by simp [chV, memB, Maps.has], fun v hv => by simp [chV, memB] at hv⟩
theorem VM.len {w : World} {b : Nat} {l : List ByteArray} (h : VM w b l) (ty : TypeId) : (Builtin.len_ #[45] ty #[.map (some b)]).run Try.prog w = .ok (.int .i64 l.length) w := by
  obtain ⟨D, h1, _, h3⟩ := h
  rw [h1.len Try.underlying45 ty, h3]
/-- The state in memory: box b, the votes' map m. -/
structure RcAt (w : World) (b : Nat) (x : RcT) (m : Option Nat) : Prop where
  box : RowIs w b #[.int .i64 x.need, .int .i64 x.delay, .slice x.ha x.hl x.hc, .int .i64 x.now, .bool x.under, .int .i64 x.ready, .map m] 47
  hs : V.SlS w x.ha x.hl x.H
  ap : ∀ g off, x.ha = some ⟨g, off, none⟩ → x.H = [] ∨ g < b
  hz : x.hl ≤ 10
  sz : ∀ s ∈ x.votes, s.size ≤ maxLen
  nil : m = none → x.votes = [] ∧ x.under = false
  map : ∀ mb, m = some mb → VM w mb x.votes ∧ b < mb
theorem RcAt.keep {w w' : World} {b : Nat} {x : RcT} {m : Option Nat} (h : RcAt w b x m) (hb : Below w.heap.size w w') : RcAt w' b x m :=
  ⟨h.box.keep hb, h.hs.keep hb, h.ap, h.hz, h.sz, h.nil, fun mb e => ⟨(h.map mb e).1.keep hb, (h.map mb e).2⟩⟩
theorem slS_lo {w w' : World} {a : Option Addr} {len b : Nat} {l : List ByteArray} (h : V.SlS w a len l) (ap : ∀ g off, a = some ⟨g, off, none⟩ → l = [] ∨ g < b) (hb : Below b w w') : V.SlS w' a len l :=
  ⟨h.1, by
    rcases h.2 with e | ⟨g, off, e, r⟩
    · exact .inl e
    · rcases ap g off e with h0 | h0
      · exact .inl h0
      · exact .inr ⟨g, off, e, Nat.lt_of_lt_of_le r.z hb.size, fun i hi => by rw [hb.cell (p := ⟨g, _, none⟩) h0]; exact r.c i hi⟩⟩
theorem between_e (a b c : Int) (w : World) : Calls Try.prog 13 #[.int .i64 a, .int .i64 b, .int .i64 c] w fun e w' => e = .returned (.bool (decide (a ≤ b ∧ b ≤ c))) ∧ w = w' := by
  go_enter Try.func13, Try.ntmps13
  go_wp2
  all_goals go_ret
  all_goals refine ⟨congrArg (fun b => Ending.returned (.bool b)) ?_, rfl⟩
  all_goals (rw [Bool.eq_iff_iff]; simp; try omega)
def Said (e : Ending) (B : Bool) (w w' : World) : Prop := e = .returned (.bool B) ∧ Below w.heap.size w w'
set_option maxHeartbeats 1000000 in
theorem unfit_any (k t : Int) (s : ByteArray) (w : World) : Calls Try.prog 25 #[.agg #[.int .i64 k, .int .i64 t, .string s]] w fun e w' => Said e (unfE k t s) w w' := by
  have q1 := hide (between_e 1 k 4)
  have q2 := hide (between_e 0 t 100000000000)
  have hd : unfE k t s = (!(decide (1 ≤ k ∧ k ≤ 4)) || !(decide (0 ≤ t ∧ t ≤ 100000000000)) || (!(s.toList == []) && !(k == 2))) := rfl
  have HD := hide hd
  clear hd
  generalize unfE k t s = U at HD ⊢
  generalize decide (1 ≤ k ∧ k ≤ 4) = d1 at *
  generalize decide (0 ≤ t ∧ t ≤ 100000000000) = d2 at *
  cases hs : (s.toList == []) <;> cases d1 <;> cases d2
  all_goals
    rw [hs] at HD
    by_cases hk : k = 2
    · subst hk
      go_enter Try.func25, Try.ntmps25
      go_wp2_with (go_at_call 13; (first | (with_reducible refine (unhide q1 _).mono ?_) | (with_reducible refine (unhide q2 _).mono ?_)); rintro e w1 ⟨rfl, rfl⟩)
      go_ret
      exact ⟨by rw [unhide HD]; rfl, bAl (Below.refl _ _) _⟩
    · have hk2 : (k == 2) = false := by simpa using hk
      rw [hk2] at HD
      have hk3 : (k != 2) = true := by simpa using hk
      have HK3 := hide hk3
      clear hk2 hk3
      go_enter Try.func25, Try.ntmps25
      go_wp2_with (go_at_call 13; (first | (with_reducible refine (unhide q1 _).mono ?_) | (with_reducible refine (unhide q2 _).mono ?_)); rintro e w1 ⟨rfl, rfl⟩)
      go_ret
      exact ⟨by rw [unhide HD]; first | rfl | exact congrArg (fun b => Ending.returned (.bool b)) (unhide HK3), bAl (Below.refl _ _) _⟩
end Go.Proofs.Ytjmpakpodhbbpaa
