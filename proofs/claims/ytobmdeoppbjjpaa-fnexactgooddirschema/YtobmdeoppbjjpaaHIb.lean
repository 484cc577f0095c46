/- impl.dirIndex: goodTypeNames, lineage. -/
import Derived.Test.YtobmdeoppbjjpaaHKg
import Derived.BigQuiet
import Derived.Deep.RegionHeld3
import Derived.Deep.AppendLies
import Derived.Laws.AppendOwn
import Derived.Laws.OwnMore
namespace Go.Proofs.Ytobmdeoppbjjpaa.V
set_option linter.unusedSimpArgs false
set_option linter.unusedVariables false
open Go.RowKit Go.Maps

def ayV (e : AttrTypeE) : Value := .agg #[.string e.t.f0, .int .i64 e.t.f1, .bool e.t.f2]
def clV (e : ClassE) : Value := .agg #[.string e.t.f0, .string e.t.f1, .slice e.h2.a e.h2.len e.h2.cap, .slice e.h3.a e.h3.len e.h3.cap]
theorem zeroAY (w : World) : (zeroValue 38).run Try.prog w = .ok (.agg #[.string ⟨#[]⟩, .int .i64 0, .bool false]) w := by kernel_rfl
theorem zeroCL (w : World) : (zeroValue 45).run Try.prog w = .ok (.agg #[.string ⟨#[]⟩, .string ⟨#[]⟩, .slice none 0 0, .slice none 0 0]) w := by kernel_rfl
/-- The map of the types. -/
abbrev KTy (w : World) (b : Nat) (l : List AttrTypeE) : Prop := KG (·.t.f0) ayV w b l.length l
abbrev KCl (w : World) (b : Nat) (l : List ClassE) : Prop := KG (·.t.f0) clV w b l.length l
set_option maxRecDepth 20000 in
set_option maxHeartbeats 2000000 in
theorem goodTypeNames_n (b1 b2 : Nat) (ts : List AttrTypeE) (h : Hd) (l : List ByteArray) (w : World) (hl : l.length ≤ maxLen) (ho : ∀ q ∈ l, ByteArray.size q ≤ maxLen) (hk : KTy w b1 ts) (hs : SqS w 0 h l) :
    Calls Try.prog 44 #[.agg #[.map (some b1), .map (some b2)], .slice h.a h.len h.cap] w fun r w' => RetB r (l.length ≤ 30 ∧ (∀ s ∈ l, s ∈ (ts.map (·.t)).map (·.f0)) ∧ RisS l) ∧ Below w.heap.size w w' := by
  have q2 := hide (fun (w' : World) (hb : Below w.heap.size w w') => rising_st (fun x y => cmpT x.data.toList y.data.toList) h l w' hl (hs.keep hb) (fun x _ y _ w'' _ => (stringsCompare_any x y w'').mono fun _ _ ⟨a, b⟩ => ⟨a, by subst b; exact Below.refl _ _⟩))
  have B := hide (bAl (Below.refl w.heap.size w) (.cells #[.map (some b1), .map (some b2)] 55))
  have R := hide (RowIs.new w #[.map (some b1), .map (some b2)] 55)
  have D : Hid ((l.length ≤ 30 ∧ (∀ s ∈ l, s ∈ (ts.map (·.t)).map (·.f0)) ∧ RisS l) ↔ (l.length ≤ 30 ∧ (∀ s ∈ l, s ∈ (ts.map (·.t)).map (·.f0)) ∧ ∀ i (h : i + 1 < l.length), cmpT l[i].data.toList l[i + 1].data.toList < 0)) := hide Iff.rfl
  generalize (l.length ≤ 30 ∧ (∀ s ∈ l, s ∈ (ts.map (·.t)).map (·.f0)) ∧ RisS l) = G at D ⊢
  have HK := hide hk
  have HS := hide hs
  have HO := hide ho
  have HL := hide hs.1
  have LM : h.len ≤ maxLen := by rw [hs.1]; exact hl
  unfold maxLen at LM
  obtain ⟨a, len, cap⟩ := h
  simp only at HL LM q2
  clear hl ho hk hs
  by_cases d : len ≤ 30
  case neg =>
    have d' : decide (30 < (len : Int)) = true := by simp; omega
    have no : Hid (¬ G) := hide (fun g => d (by have := ((unhide D).1 g).1; have := unhide HL; omega))
    clear D q2
    go_enter Try.func44, Try.ntmps44
    go_wp2_with fail
    go_ret
    exact ⟨retB (b := false) ⟨fun h => (by cases h), fun h => absurd h (unhide no)⟩, unhide B⟩
  have d' : decide (30 < (len : Int)) = false := by simp; omega
  have D0 : Hid (G ↔ ((∀ s ∈ l, s ∈ (ts.map (·.t)).map (·.f0)) ∧ ∀ i (h : i + 1 < l.length), cmpT l[i].data.toList l[i + 1].data.toList < 0)) := hide ((unhide D).trans ⟨fun h => h.2, fun h => ⟨by have := unhide HL; omega, h⟩⟩)
  clear D d
  go_enter Try.func44, Try.ntmps44
  go_wp2_with fail
  go_loopw [14] (fun i w' => ∃ k : Nat, k ≤ len ∧ i = .int .i64 k ∧ Hid (Below w.heap.size w w') ∧ Hid (RowIs w' w.heap.size #[.map (some b1), .map (some b2)] 55) ∧ Hid (∀ i (h : i < l.length), i < k → l[i] ∈ (ts.map (·.t)).map (·.f0))) (fun i _ => len - (intOf i).toNat)
  case atStart => exact ⟨0, Nat.zero_le _, rfl, B, R, hide (fun i _ h => absurd h (Nat.not_lt_zero _))⟩
  case round =>
    clear B R
    obtain ⟨k, hk, rfl, B, R, hA⟩ := hrel
    by_cases hlt : k < len
    case neg =>
      have ALL : Hid (∀ s ∈ l, s ∈ (ts.map (·.t)).map (·.f0)) := hide (fun s hs => by
        obtain ⟨i, hi, rfl⟩ := List.getElem_of_mem hs
        exact unhide hA i hi (by have := unhide HL; omega))
      clear hA
      go_wp2_with fail
      refine (unhide q2 _ (unhide B)).mono ?_
      rintro r w1 ⟨⟨v, rfl, hv⟩, hb⟩
      have HV := hide hv
      replace B := hide (bTr (unhide B) hb)
      clear hb hv q2
      go_wp2_with fail
      go_ret
      exact ⟨retB (b := v) ((unhide HV).trans ⟨fun h => (unhide D0).2 ⟨unhide ALL, h⟩, fun h => ((unhide D0).1 h).2⟩), unhide B⟩
    have hk' : k < l.length := by have := unhide HL; omega
    obtain ⟨b1', off1, e1, row1⟩ := ((unhide HS).keep (unhide B)).sl.at hlt
    simp only at e1
    subst e1
    have n0 := row1.c k hk'
    have r0 := (unhide R).at (o := 0) (v := .map (some b1)) rfl
    have zl := (unhide R).lt
    obtain ⟨M, C, hM, hC⟩ := ((unhide HK).keep (unhide B)).told
    obtain ⟨h1, h2, h3⟩ := hC l[k]
    have hsz := unhide HO _ (List.getElem_mem hk')
    have NOP : Hid (¬ l[k] ∈ (ts.map (·.t)).map (·.f0) → ¬ G) := hide (fun g h => g (((unhide D0).1 h).1 _ (List.getElem_mem hk')))
    have STP : Hid (l[k] ∈ (ts.map (·.t)).map (·.f0) → ∀ i (h : i < l.length), i < k + 1 → l[i] ∈ (ts.map (·.t)).map (·.f0)) := hide (fun g i hi h1 => by
      rcases Nat.lt_or_ge i k with h2 | h2
      · exact unhide hA i hi h2
      · obtain rfl : i = k := by omega
        exact g)
    have MEM : Hid ((C l[k]).isSome = true ↔ l[k] ∈ (ts.map (·.t)).map (·.f0)) := hide (h2.trans (by simp))
    have HM := hide hM
    clear row1 hA hM hC h2 h3 HK
    generalize (l[k] ∈ (ts.map (·.t)).map (·.f0)) = PP at NOP STP MEM
    generalize l[k] = s at *
    cases hc : C s
    · have er : Hid ((M s).isSome = false) := hide (by rw [h1, hc]; rfl)
      have ev : Hid ((M s).getD (.agg #[.string ⟨#[]⟩, .int .i64 0, .bool false]) = .agg #[.string ⟨#[]⟩, .int .i64 0, .bool false]) := hide (by rw [h1, hc]; rfl)
      have no := hide (unhide NOP (fun g => by have := (unhide MEM).2 g; rw [hc] at this; cases this))
      clear NOP STP MEM hc h1
      go_wp2_with (at_lookup; refine wpList_look_km _ kStr rfl _ _ _ rfl _ Try.underlying52 (zeroAY _) b1 _ _ rfl (unhide HM) s rfl hsz _ _ (unhide ev) (unhide er) ?_)
      go_ret
      exact ⟨retB (b := false) ⟨fun h => (by cases h), fun h => absurd h (unhide no)⟩, bAl (unhide B) _⟩
    · rename_i e
      have er : Hid ((M s).isSome = true) := hide (by rw [h1, hc]; rfl)
      have ev : Hid ((M s).getD (.agg #[.string ⟨#[]⟩, .int .i64 0, .bool false]) = .agg #[.string e.t.f0, .int .i64 e.t.f1, .bool e.t.f2]) := hide (by rw [h1, hc]; rfl)
      have S := hide (unhide STP ((unhide MEM).1 (by rw [hc]; rfl)))
      have RN := hide ((unhide R).keep (bAl (Below.refl _ _) (.cells #[.string e.t.f0, .int .i64 e.t.f1, .bool e.t.f2] 38)))
      have BN := hide (bAl (unhide B) (.cells #[.string e.t.f0, .int .i64 e.t.f1, .bool e.t.f2] 38))
      clear NOP STP MEM hc h1
      go_wp2_with (at_lookup; refine wpList_look_km _ kStr rfl _ _ _ rfl _ Try.underlying52 (zeroAY _) b1 _ _ rfl (unhide HM) s rfl hsz _ _ (unhide ev) (unhide er) ?_)
      exact ⟨⟨k + 1, by omega, by go_num, BN, RN, S⟩, by simp [intOf]; omega⟩
end Go.Proofs.Ytobmdeoppbjjpaa.V
