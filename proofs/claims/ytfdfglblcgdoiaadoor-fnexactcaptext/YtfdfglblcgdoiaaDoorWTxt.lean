/- The text of a value, as bytes. -/
import Derived.Test.YtfdfglblcgdoiaaDoorWVal
import Derived.Test.YtfdfglblcgdoiaaDoorQAtU
import Derived.Lib.Join
namespace Go.Proofs.YtfdfglblcgdoiaaDoor.V
open Go.RowKit

def AtomT.l (a : AtomT) : List UInt8 := atomL a.x a.n a.t a.y
theorem atomL_len {k n : Int} {t ty : ByteArray} (h8 : -9223372036854775808 ≤ n) (h9 : n ≤ 9223372036854775807) (hg : goodAtom k n t ty = true) : (atomL k n t ty).length ≤ 1100 := by
  have hi := Lib.itoa_length_le n h8 h9
  have hd := dig_len n h8 h9
  unfold atomL
  split
  · split <;> decide
  split
  · rename_i _ h3; exact Nat.le_trans (quo_len t (good_text hg (.inl h3))) (by decide)
  split
  · rename_i _ _ h4
    subst h4
    have a := quo_len t (good_text hg (.inr rfl))
    have b := good_type hg
    have b' : ty.data.toList.length ≤ 30 := b
    simp only [List.length_append, List.length_cons, List.length_nil]
    omega
  split
  · unfold decL dotL
    have p := padL_len (Lib.decDigits n.natAbs)
    simp only [List.length_append, List.length_cons, List.length_take, List.length_drop]
    split
    all_goals simp only [List.length_cons, List.length_nil]; omega
  split
  · rename_i _ _ _ _ h6
    subst h6
    obtain ⟨a0, a1, a2⟩ := good_addr hg
    have f : ∀ x ∈ (four (n / 64)).map Lib.itoa, x.length ≤ 21 := by
      intro x hx
      obtain ⟨m, hm, rfl⟩ := List.mem_map.1 hx
      simp only [four, List.mem_cons, List.not_mem_nil, or_false] at hm
      rcases hm with rfl | rfl | rfl | rfl <;> exact Lib.itoa_length_le _ (by omega) (by omega)
    have j := inter_len 21 _ f
    have z := Lib.itoa_length_le (n % 64) (by omega) (by omega)
    unfold blkL
    simp only [List.length_append, List.length_cons]
    simp only [List.length_map, four, List.length_cons, List.length_nil] at j ⊢
    omega
  split
  · simp only [List.length_cons]; omega
  · omega
theorem AtomT.l_len {a : AtomT} (h : a.Ok) (hg : a.good = true) : a.l.length ≤ 1100 := atomL_len h.n8 h.n9 hg

/-- What stands between the commas. -/
def pieces (v : ValT) : List (List UInt8) := if v.k = 3 then List.zipWith (fun n a => n.data.toList ++ 58 :: AtomT.l a) v.names v.items else v.items.map AtomT.l
def valL (v : ValT) : List UInt8 :=
  if v.k = 1 then v.a.l else if v.k = 3 then 123 :: (Lib.join (pieces v) [44] ++ [125]) else 91 :: (Lib.join (pieces v) [44] ++ [93])

theorem join_step {L : List (List UInt8)} {k : Nat} {y s : List UInt8} (h : L[k]? = some y) (hk : 0 < k) : Lib.join (L.take (k + 1)) s = Lib.join (L.take k) s ++ s ++ y := by
  obtain ⟨j, rfl⟩ : ∃ j, k = j + 1 := ⟨k - 1, by omega⟩
  cases L with
  | nil => simp at h
  | cons x r =>
    simp only [List.getElem?_cons_succ] at h
    rw [List.take_succ_cons, List.take_succ_cons, Lib.join_cons, Lib.join_cons, Lib.joinTail_take_succ s r j y h]
    simp
theorem join_first {L : List (List UInt8)} {y s : List UInt8} (h : L[0]? = some y) : Lib.join (L.take 1) s = y := by
  cases L with
  | nil => simp at h
  | cons x r =>
    simp only [List.getElem?_cons_zero, Option.some.injEq] at h
    subst h
    exact Lib.join_one _ _
theorem join_bound (s : List UInt8) (hs : s.length = 1) (m : Nat) : ∀ L : List (List UInt8), (∀ x ∈ L, x.length ≤ m) → (Lib.join L s).length ≤ (m + 1) * L.length
  | [], _ => by simp [Lib.join, List.intercalate]
  | [a], h => by
    have := h a (by simp)
    simp [Lib.join, List.intercalate]
    omega
  | a :: b :: L, h => by
    have ih := join_bound s hs m (b :: L) (fun x hx => h x (List.mem_cons_of_mem _ hx))
    have := h a (by simp)
    simp [Lib.join, List.intercalate, Nat.mul_add, hs] at ih ⊢
    omega
theorem name_len {s : ByteArray} (h : goodName s = true) : s.size ≤ 30 := by
  have : nameL s.data.toList = true := h
  unfold nameL at this
  simp at this
  have e : s.data.toList.length = s.size := rfl
  simp at e
  omega
theorem retB_no {e : Ending} {p : Prop} (h : RetB e p) (hp : ¬ p) : e = .returned (.bool false) := by
  obtain ⟨b, rfl, hb⟩ := h
  cases b
  · rfl
  · exact absurd (hb.1 rfl) hp
theorem retB_yes {e : Ending} {p : Prop} (h : RetB e p) (hp : p) : e = .returned (.bool true) := by
  obtain ⟨b, rfl, hb⟩ := h
  rw [hb.2 hp]
end Go.Proofs.YtfdfglblcgdoiaaDoor.V
