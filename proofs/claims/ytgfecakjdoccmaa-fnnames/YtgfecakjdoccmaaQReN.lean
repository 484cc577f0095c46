/- impl.ReadName, spec.ReadName. -/
import Derived.Test.YtgfecakjdoccmaaQGuN
namespace Go.Proofs.Ytgfecakjdoccmaa
open Go.RowKit

/-- What ReadName answers. -/
def ReadIs (s : ByteArray) (l : List PartT) (ok : Bool) : Prop := (ok = true ∧ dirB l = true ∧ nameT l = s) ∨ (ok = false ∧ l = [] ∧ ∀ l', dirB l' = true → nameT l' ≠ s)
def RetN (s : ByteArray) (base : Nat) (e : Ending) (w' : World) : Prop := ∃ (l : List PartT) (ok : Bool) (v : Value), e = .returned (.tuple #[v, .bool ok]) ∧ ReadIs s l ok ∧ w'.ownsRow base 55 2 v l.length (partsV l)

theorem dirB_parts {l : List PartT} (h : dirB l = true) : l.length ≤ 8 ∧ ∀ p ∈ l, partB p = true := by
  unfold dirB at h
  simp at h
  exact h
theorem nameT_good {l : List PartT} (h : dirB l = true) : nameT l = ⟨(nameL' l).toArray⟩ := by unfold nameT; rw [if_pos h]
theorem nameT_list {l : List PartT} {s : ByteArray} (h : dirB l = true) (e : nameT l = s) : s.data.toList = nameL' l := by rw [← e, nameT_good h]
theorem guess_is {l : List PartT} {s : ByteArray} (h : dirB l = true) (e : nameT l = s) : gname 9 s.data.toList = l := by
  obtain ⟨h1, h2⟩ := dirB_parts h
  rw [nameT_list h e]
  exact gname_text l 9 (by omega) h2
theorem ReadIs.one {s : ByteArray} {l m : List PartT} {a b : Bool} (h : ReadIs s l a) (k : ReadIs s m b) : l = m ∧ a = b := by
  rcases h with ⟨h1, h2, h3⟩ | ⟨h1, h2, h3⟩ <;> rcases k with ⟨k1, k2, k3⟩ | ⟨k1, k2, k3⟩
  · exact ⟨by rw [← guess_is h2 h3, guess_is k2 k3], by rw [h1, k1]⟩
  · exact absurd h3 (k3 _ h2)
  · exact absurd k3 (h3 _ k2)
  · exact ⟨by rw [h2, k2], by rw [h1, k1]⟩
theorem gname_ok : ∀ (n : Nat) (t : List UInt8), ∀ q ∈ gname n t, q.a.size ≤ t.length ∧ q.t.size ≤ t.length
  | 0, t, q, h => by simp [gname] at h
  | n + 1, t, q, h => by
    by_cases ht : t = []
    · subst ht; rw [gname_nil] at h; simp at h
    · rw [gname_succ n ht] at h
      have c1 := cutE_len t
      have c2 := gpart_len (cutE t).2
      rcases List.mem_cons.1 h with rfl | h
      · constructor
        · show (cutE t).1.toArray.size ≤ _; rw [List.size_toArray]; omega
        · show (gpart (cutE t).2).1.toArray.size ≤ _; rw [List.size_toArray]; omega
      · have := gname_ok n _ q h
        omega
theorem str_ne {a b : ByteArray} (h : ¬ a = b) : ¬ a.toList = b.toList := by
  intro e
  rw [ByteArray.toList_eq, ByteArray.toList_eq] at e
  exact h (Go.WideShapes.bytes_inj e)

set_option maxHeartbeats 1000000 in
theorem iReadName_any (s : ByteArray) (w : World) (hs : s.size ≤ 1048576) :
    Calls Try.prog 11 #[.string s] w fun e w' => RetN s w.heap.size e w' ∧ Below w.heap.size w w' := by
  have qg := hide (guessName_any s w hs)
  obtain ⟨N, hN⟩ : ∃ N, gname 9 s.data.toList = N := ⟨_, rfl⟩
  have hok := hide (show ∀ q ∈ N, PartT.Ok q from fun q hq => by
    rw [← hN] at hq
    have h1 := gname_ok 9 _ q hq
    have l1 : s.data.toList.length = s.size := by simp
    exact ⟨by unfold maxLen; omega, by unfold maxLen; omega⟩)
  have hgd : Hid (nameT N = s → dirB N = true) := hide (fun e => by
    cases hd : dirB N
    · exfalso
      have e2 : nameT N = ⟨#[]⟩ := by unfold nameT; rw [hd]; rfl
      rw [e2] at e
      rw [← e] at hN
      have : N = [] := by rw [← hN]; rfl
      rw [this] at hd
      exact absurd hd (by decide)
    · rfl)
  have hno : Hid (¬ nameT N = s → ∀ l', dirB l' = true → nameT l' ≠ s) := hide (fun hne l' h1 h2 => hne (by rw [← hN, guess_is h1 h2]; exact h2))
  rw [hN] at qg
  clear hN
  go_enter Try.func11, Try.ntmps11
  go_wp2_with fail
  refine (unhide qg).mono ?_
  rintro e w1 ⟨⟨v, rfl, hown⟩, hb⟩
  obtain ⟨a, cap, rfl, hsl⟩ := own_parts hown
  have hlen : N.length ≤ maxLen := by
    rcases hown.2 with ⟨_, e⟩ | ⟨g, cp, cur, _, _, _, h1, h2, _⟩
    · rw [e]; exact Nat.zero_le _
    · exact Nat.le_trans h1 h2
  have qn := hide (iNameText_any a N.length cap N w1 hlen hsl (unhide hok))
  have HO := hide hown
  have HB := hide hb
  clear hown hb hsl hlen qg hok
  generalize hT : nameT N = T at qn hgd hno
  go_wp2_with fail
  refine (unhide qn).mono ?_
  rintro e w2 ⟨rfl, hb2⟩
  have HO2 := hide (own_keepT (unhide HO) hb2)
  have HB2 := hide (bTr (unhide HB) hb2)
  clear hb2 HO HB qn
  by_cases hTs : T = s
  · have yes := hide (show ReadIs s N true from .inl ⟨rfl, unhide hgd hTs, by rw [hT, hTs]⟩)
    clear hT hgd hno
    subst hTs
    go_wp2_with fail
    go_ret2
    exact ⟨⟨N, true, _, rfl, unhide yes, unhide HO2⟩, unhide HB2⟩
  · have no := hide (show ReadIs s [] false from .inr ⟨rfl, rfl, unhide hno hTs⟩)
    have hne : (T.toList == s.toList) = false := by simpa using str_ne hTs
    clear hT hgd hno hTs
    go_wp2_with fail
    go_ret2
    exact ⟨⟨[], false, _, rfl, unhide no, World.ownsRow_nil _ _ _ _⟩, unhide HB2⟩
end Go.Proofs.Ytgfecakjdoccmaa
