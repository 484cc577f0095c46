/- What reading an atom does to bytes: pure. -/
import Derived.Test.YtijfgfdagfchiaaGreatDoorQNmP
import Derived.Test.YtijfgfdagfchiaaGreatDoorQAtT
import Derived.Test.YtijfgfdagfchiaaGreatDoorAUn
import Derived.Lib.CountLaws
import Derived.Lib.Replace
import Derived.Lib.Split
namespace Go.Proofs.YtijfgfdagfchiaaGreatDoor

theorem index_app (c : UInt8) (sub : List UInt8) : ∀ (a r : List UInt8), c ∉ a → Lib.index (a ++ (c :: sub ++ r)) (c :: sub) = a.length
  | [], r, _ => by
    have h : (c :: sub).isPrefixOf (c :: (sub ++ r)) = true := by
      rw [List.isPrefixOf_iff_prefix]; exact ⟨r, rfl⟩
    show Lib.index (c :: (sub ++ r)) (c :: sub) = _
    unfold Lib.index
    rw [h]; rfl
  | b :: a, r, h => by
    have hc : ¬ c = b := fun e => h (by rw [e]; simp)
    have ih := index_app c sub a r (fun e => h (List.mem_cons_of_mem _ e))
    show Lib.index (b :: (a ++ (c :: sub ++ r))) (c :: sub) = _
    unfold Lib.index
    have h1 : (c :: sub).isPrefixOf (b :: (a ++ (c :: sub ++ r))) = false := by
      have : (c == b) = false := by simpa using hc
      simp [List.isPrefixOf, this]
    rw [h1, ih]
    have h2 : ((a.length : Int) == -1) = false := by rw [beq_eq_false_iff_ne]; omega
    rw [h2]
    simp
theorem index_none (c : UInt8) (sub : List UInt8) : ∀ a : List UInt8, c ∉ a → Lib.index a (c :: sub) = -1
  | [], _ => rfl
  | b :: a, h => by
    have hc : ¬ c = b := fun e => h (by rw [e]; simp)
    have ih := index_none c sub a (fun e => h (List.mem_cons_of_mem _ e))
    unfold Lib.index
    have h1 : (c :: sub).isPrefixOf (b :: a) = false := by
      have : (c == b) = false := by simpa using hc
      simp [List.isPrefixOf, this]
    rw [h1, ih]; rfl
theorem cut_two (c : UInt8) (a r : List UInt8) (h : c ∉ a) : Lib.cut (a ++ (c :: c :: r)) [c, c] = (a, r, true) := by
  unfold Lib.cut
  have e := index_app c [c] a r h
  rw [show a ++ (c :: c :: r) = a ++ (c :: [c] ++ r) from rfl, e, if_pos (by omega)]
  simp
theorem replace_one (A B : List UInt8) (c : UInt8) (h : c ∉ A) : Lib.replaceK [c] [] (Lib.replaceNum (A ++ c :: B) [c] 1) (A ++ c :: B) = A ++ B := by
  have e := index_app c [] A B h
  have e' : Lib.index (A ++ c :: B) [c] = A.length := e
  have hc : Lib.count (A ++ c :: B) [c] = 1 + _ := Lib.count_hit (by simp) e'
  have hn : Lib.replaceNum (A ++ c :: B) [c] 1 = 1 := by
    unfold Lib.replaceNum
    rw [if_neg (by omega)]; rfl
  rw [hn, Lib.replaceK_hit [c] [] 0 _ _ e']
  unfold Lib.replaceK
  simp
theorem count_none {c : UInt8} {a : List UInt8} (h : c ∉ a) : Lib.count a [c] = 0 := Lib.count_miss (index_none c [] a h)
theorem split_join (c : UInt8) : ∀ (x : List UInt8) (L : List (List UInt8)), (∀ y ∈ x :: L, c ∉ y) → Lib.splitK [c] 0 (Lib.count (Lib.join (x :: L) [c]) [c]) (Lib.join (x :: L) [c]) = x :: L
  | x, [], h => by
    have e : Lib.join [x] [c] = x := by simp [Lib.join, List.intercalate]
    rw [e, count_none (h x (by simp))]; rfl
  | x, y :: L, h => by
    have ih := split_join c y L (fun z hz => h z (List.mem_cons_of_mem _ hz))
    have e : Lib.join (x :: y :: L) [c] = x ++ c :: Lib.join (y :: L) [c] := by simp [Lib.join, List.intercalate]
    have i := index_app c [] x (Lib.join (y :: L) [c]) (h x (by simp))
    have i' : Lib.index (x ++ c :: Lib.join (y :: L) [c]) [c] = x.length := i
    rw [e, Lib.count_hit (by simp) i']
    have hd : (x ++ c :: Lib.join (y :: L) [c]).drop (x.length + [c].length) = Lib.join (y :: L) [c] := by simp
    rw [hd, Nat.add_comm 1]
    unfold Lib.splitK
    have h2 : ((x.length : Int) == -1) = false := by rw [beq_eq_false_iff_ne]; omega
    rw [i', h2, if_neg (by simp)]
    have e2 : (x.length : Int).toNat = x.length := by simp
    rw [e2, hd, ih]
    simp
theorem itoa_chars (n : Int) : ∀ c ∈ Lib.itoa n, c = 45 ∨ Dig c := by
  intro c hc
  rcases itoa_head n with ⟨_, e⟩ | ⟨_, e⟩
  · rw [e, List.mem_cons] at hc
    rcases hc with h | h
    · exact .inl h
    · exact .inr (dec_dig _ c h)
  · rw [e] at hc
    exact .inr (dec_dig _ c hc)
theorem itoa_not {c : UInt8} (n : Int) (h45 : ¬ c = 45) (hd : ¬ Dig c) : c ∉ Lib.itoa n := fun h => (itoa_chars n c h).elim h45 hd
/-- A number out of four bytes. -/
def f256 (l : List Int) : Int := l.foldl (fun a x => a * 256 + x) 0
theorem f256_snoc (l : List Int) (x : Int) : f256 (l ++ [x]) = f256 l * 256 + x := by simp [f256]
end Go.Proofs.YtijfgfdagfchiaaGreatDoor
