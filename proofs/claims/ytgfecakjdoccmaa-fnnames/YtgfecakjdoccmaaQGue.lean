/- Names read: what impl.guessName and spec.ReadName do to bytes; both undo a good name's text. -/
import Derived.Test.YtgfecakjdoccmaaQNam
namespace Go.Proofs.Ytgfecakjdoccmaa
open Go.RowKit

/-- impl.guessPartText: the text up to the first comma that has no backslash ahead, and what stands behind it. -/
def gpart : List UInt8 → List UInt8 × List UInt8
  | [] => ([], [])
  | [c] => if c = 44 then ([], []) else ([c], [])
  | c :: d :: t => if c = 44 then ([], d :: t) else if c = 92 then (d :: (gpart t).1, (gpart t).2) else (c :: (gpart (d :: t)).1, (gpart (d :: t)).2)

theorem gpart_comma (t : List UInt8) : gpart (44 :: t) = ([], t) := by
  cases t with
  | nil => simp [gpart]
  | cons d t => simp [gpart]
theorem gpart_slash (c : UInt8) (t : List UInt8) : gpart (92 :: c :: t) = (c :: (gpart t).1, (gpart t).2) := by simp [gpart]
theorem gpart_last : gpart [92] = ([92], []) := by simp [gpart]
theorem gpart_other {c : UInt8} (h1 : c ≠ 44) (h2 : c ≠ 92) (t : List UInt8) : gpart (c :: t) = (c :: (gpart t).1, (gpart t).2) := by
  cases t with
  | nil => simp [gpart, h1]
  | cons d t => simp [gpart, h1, h2]

theorem esc_cons (so : List UInt8) (c : UInt8) (t : List UInt8) : esc so (c :: t) = escs so c ++ [c] ++ esc so t := by simp [esc]
theorem escs_in {c : UInt8} (h : c = 44 ∨ c = 92) : escs [44, 92] c = [92] := by rcases h with rfl | rfl <;> decide
theorem escs_out {c : UInt8} (h1 : c ≠ 44) (h2 : c ≠ 92) : escs [44, 92] c = [] := by
  have e1 : ¬ (44 : UInt8) = c := fun h => h1 h.symm
  have e2 : ¬ (92 : UInt8) = c := fun h => h2 h.symm
  simp [escs, e1, e2]

theorem gpart_esc : ∀ (t : List UInt8) (r : List UInt8), (r = [] ∨ ∃ q, r = 44 :: q) → gpart (esc [44, 92] t ++ r) = (t, r.drop 1)
  | [], r, hr => by
    rcases hr with rfl | ⟨q, rfl⟩
    · rfl
    · show gpart (44 :: q) = _
      rw [gpart_comma]; rfl
  | c :: t, r, hr => by
    have ih := gpart_esc t r hr
    rw [esc_cons]
    by_cases h : c = 44 ∨ c = 92
    · rw [escs_in h]
      show gpart (92 :: c :: (esc [44, 92] t ++ r)) = _
      rw [gpart_slash, ih]
    · have h1 : c ≠ 44 := fun e => h (.inl e)
      have h2 : c ≠ 92 := fun e => h (.inr e)
      rw [escs_out h1 h2]
      show gpart (c :: (esc [44, 92] t ++ r)) = _
      rw [gpart_other h1 h2, ih]

/-- strings.Cut at '='. -/
def cutE (s : List UInt8) : List UInt8 × List UInt8 := if 0 ≤ Lib.indexByte s 61 then (s.take (Lib.indexByte s 61).toNat, s.drop ((Lib.indexByte s 61).toNat + 1)) else (s, [])
theorem idx_app : ∀ (a r : List UInt8), (61 : UInt8) ∉ a → Lib.indexByte (a ++ 61 :: r) 61 = a.length
  | [], r, _ => by simp [Lib.indexByte]
  | c :: a, r, h => by
    have hc : ¬ c = 61 := fun e => h (by rw [e]; simp)
    have ih := idx_app a r (fun e => h (List.mem_cons_of_mem _ e))
    show Lib.indexByte (c :: (a ++ 61 :: r)) 61 = _
    unfold Lib.indexByte
    rw [ih]
    have h1 : (c == 61) = false := by simpa using hc
    rw [h1]
    simp
theorem cutE_app (a r : List UInt8) (h : (61 : UInt8) ∉ a) : cutE (a ++ 61 :: r) = (a, r) := by
  unfold cutE
  rw [idx_app a r h, if_pos (by omega)]
  simp

def gname : Nat → List UInt8 → List PartT
  | 0, _ => []
  | n + 1, t => if t = [] then [] else ⟨⟨(cutE t).1.toArray⟩, ⟨(gpart (cutE t).2).1.toArray⟩⟩ :: gname n (gpart (cutE t).2).2

theorem gname_succ (n : Nat) {t : List UInt8} (h : ¬ t = []) : gname (n + 1) t = ⟨⟨(cutE t).1.toArray⟩, ⟨(gpart (cutE t).2).1.toArray⟩⟩ :: gname n (gpart (cutE t).2).2 := by rw [gname, if_neg h]
theorem name_no_eq {s : ByteArray} (h : goodName s = true) : (61 : UInt8) ∉ s.data.toList := by
  intro hm
  unfold goodName nameL at h
  simp only [Bool.and_eq_true] at h
  have := List.all_eq_true.1 h.2 61 hm
  simp [okcB, namB, digB] at this
theorem partB_eq {p : PartT} (h : partB p = true) : (61 : UInt8) ∉ p.a.data.toList := by
  unfold partB at h
  simp only [Bool.and_eq_true] at h
  exact name_no_eq h.1
theorem mk_toList (s : ByteArray) : (⟨s.data.toList.toArray⟩ : ByteArray) = s := by
  apply ByteArray.ext; simp
theorem nameL_one (p : PartT) : nameL' [p] = ptext p := by simp [nameL', Lib.join, List.intercalate]
theorem nameL_cons (p q : PartT) (l : List PartT) : nameL' (p :: q :: l) = ptext p ++ 44 :: nameL' (q :: l) := by
  simp [nameL', Lib.join, List.intercalate]
theorem ptext_app (p : PartT) (r : List UInt8) : ptext p ++ r = p.a.data.toList ++ 61 :: (esc [44, 92] p.t.data.toList ++ r) := by simp [ptext]

theorem gname_part (n : Nat) (p : PartT) (r : List UInt8) (hp : partB p = true) (hr : r = [] ∨ ∃ q, r = 44 :: q) : gname (n + 1) (ptext p ++ r) = p :: gname n (r.drop 1) := by
  have hne : ¬ ptext p ++ r = [] := by rw [ptext_app]; simp
  rw [gname_succ n hne, ptext_app, cutE_app _ _ (partB_eq hp)]
  simp only
  rw [gpart_esc _ _ hr, mk_toList, mk_toList]
/-- Guessing undoes a good name's text. -/
theorem gname_text : ∀ (l : List PartT) (n : Nat), l.length ≤ n → (∀ p ∈ l, partB p = true) → gname n (nameL' l) = l
  | [], n, _, _ => by
    cases n with
    | zero => rfl
    | succ n => rfl
  | [p], n, hn, hp => by
    obtain ⟨k, rfl⟩ : ∃ k, n = k + 1 := ⟨n - 1, by simp at hn; omega⟩
    rw [nameL_one]
    have := gname_part k p [] (hp p (by simp)) (.inl rfl)
    rw [List.append_nil] at this
    rw [this]
    cases k with
    | zero => rfl
    | succ k => rfl
  | p :: q :: l, n, hn, hp => by
    obtain ⟨k, rfl⟩ : ∃ k, n = k + 1 := ⟨n - 1, by simp at hn; omega⟩
    rw [nameL_cons, gname_part k p _ (hp p (by simp)) (.inr ⟨_, rfl⟩)]
    rw [List.drop_one, List.tail_cons, gname_text (q :: l) k (by simp at hn ⊢; omega) (fun x hx => hp x (List.mem_cons_of_mem _ hx))]

/-- The states of spec.ReadName. -/
structure Mach where
  out : List PartT
  attr : List UInt8
  part : List UInt8
  inT : Bool
def Mach.toOut (m : Mach) : List PartT := m.out ++ [⟨⟨m.attr.toArray⟩, ⟨m.part.toArray⟩⟩]
def mach : Mach → List UInt8 → Option Mach
  | m, [] => some m
  | m, [b] => if m.inT = false ∧ b = 61 then some ⟨m.out, m.part, [], true⟩ else if m.inT = true ∧ b = 44 then some ⟨m.toOut, m.attr, [], false⟩ else if m.inT = true ∧ b = 92 then none else some ⟨m.out, m.attr, m.part ++ [b], m.inT⟩
  | m, b :: c :: t => if m.inT = false ∧ b = 61 then mach ⟨m.out, m.part, [], true⟩ (c :: t) else if m.inT = true ∧ b = 44 then mach ⟨m.toOut, m.attr, [], false⟩ (c :: t) else if m.inT = true ∧ b = 92 then mach ⟨m.out, m.attr, m.part ++ [c], m.inT⟩ t else mach ⟨m.out, m.attr, m.part ++ [b], m.inT⟩ (c :: t)
theorem mach_is (o : List PartT) (x p t : List UInt8) : mach ⟨o, x, p, false⟩ (61 :: t) = mach ⟨o, p, [], true⟩ t := by
  cases t <;> simp [mach]
theorem mach_comma (m : Mach) (t : List UInt8) (h : m.inT = true) : mach m (44 :: t) = mach ⟨m.toOut, m.attr, [], false⟩ t := by
  cases t <;> simp [mach, h]
theorem mach_slash (m : Mach) (c : UInt8) (t : List UInt8) (h : m.inT = true) : mach m (92 :: c :: t) = mach ⟨m.out, m.attr, m.part ++ [c], true⟩ t := by simp [mach, h]
theorem mach_last (m : Mach) (h : m.inT = true) : mach m [92] = none := by simp [mach, h]
theorem mach_letter (o : List PartT) (x p : List UInt8) {b : UInt8} (hb : b ≠ 61) (t : List UInt8) : mach ⟨o, x, p, false⟩ (b :: t) = mach ⟨o, x, p ++ [b], false⟩ t := by
  cases t <;> simp [mach, hb]
theorem mach_byte (o : List PartT) (x p : List UInt8) {b : UInt8} (h1 : b ≠ 44) (h2 : b ≠ 92) (t : List UInt8) : mach ⟨o, x, p, true⟩ (b :: t) = mach ⟨o, x, p ++ [b], true⟩ t := by
  cases t <;> simp [mach, h1, h2]

theorem mach_attr : ∀ (a r : List UInt8) (o : List PartT) (x p : List UInt8), (61 : UInt8) ∉ a → mach ⟨o, x, p, false⟩ (a ++ 61 :: r) = mach ⟨o, p ++ a, [], true⟩ r
  | [], r, o, x, p, _ => by rw [List.nil_append, mach_is, List.append_nil]
  | c :: a, r, o, x, p, h => by
    have hc : c ≠ 61 := fun e => h (by rw [e]; simp)
    have ih := mach_attr a r o x (p ++ [c]) (fun e => h (List.mem_cons_of_mem _ e))
    show mach _ (c :: (a ++ 61 :: r)) = _
    rw [mach_letter _ _ _ hc, ih]
    simp
theorem mach_esc : ∀ (t r : List UInt8) (o : List PartT) (x p : List UInt8), mach ⟨o, x, p, true⟩ (esc [44, 92] t ++ r) = mach ⟨o, x, p ++ t, true⟩ r
  | [], r, o, x, p => by simp [esc]
  | c :: t, r, o, x, p => by
    have ih := mach_esc t r o x (p ++ [c])
    rw [esc_cons]
    by_cases h : c = 44 ∨ c = 92
    · rw [escs_in h]
      show mach _ (92 :: c :: (esc [44, 92] t ++ r)) = _
      rw [mach_slash _ _ _ rfl, ih]
      simp
    · have h1 : c ≠ 44 := fun e => h (.inl e)
      have h2 : c ≠ 92 := fun e => h (.inr e)
      rw [escs_out h1 h2]
      show mach _ (c :: (esc [44, 92] t ++ r)) = _
      rw [mach_byte _ _ _ h1 h2, ih]
      simp
theorem mach_part (p : PartT) (r : List UInt8) (o : List PartT) (x : List UInt8) (hp : partB p = true) : mach ⟨o, x, [], false⟩ (ptext p ++ r) = mach ⟨o, p.a.data.toList, p.t.data.toList, true⟩ r := by
  rw [ptext_app, mach_attr _ _ _ _ _ (partB_eq hp), List.nil_append, mach_esc, List.nil_append]
theorem mach_text : ∀ (l : List PartT) (o : List PartT) (x : List UInt8), l ≠ [] → (∀ p ∈ l, partB p = true) → ∃ m, mach ⟨o, x, [], false⟩ (nameL' l) = some m ∧ m.inT = true ∧ m.toOut = o ++ l
  | [], _, _, h, _ => absurd rfl h
  | [p], o, x, _, hp => by
    rw [nameL_one]
    have := mach_part p [] o x (hp p (by simp))
    rw [List.append_nil] at this
    rw [this]
    exact ⟨_, rfl, rfl, by simp [Mach.toOut]⟩
  | p :: q :: l, o, x, _, hp => by
    rw [nameL_cons, mach_part p _ o x (hp p (by simp)), mach_comma _ _ rfl]
    obtain ⟨m, h1, h2, h3⟩ := mach_text (q :: l) (o ++ [p]) p.a.data.toList (by simp) (fun y hy => hp y (List.mem_cons_of_mem _ hy))
    refine ⟨m, ?_, h2, by rw [h3]; simp⟩
    rw [← h1]
    congr 1
end Go.Proofs.Ytgfecakjdoccmaa
