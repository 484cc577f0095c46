/- spec.l11GoodTypes, l11GoodKind, l11GoodAttrs. -/
import Derived.Test.YtkfbecelfkbkkaaZSa
import Derived.Test.YtkfbecelfkbkkaaZTg
import Derived.BigQuiet
import Derived.Deep.RegionWith
namespace Go.Proofs.Ytkfbecelfkbkkaa.V
set_option linter.unusedSimpArgs false
set_option linter.unusedVariables false
open Go.RowKit

def RisN' (l : List ByteArray) : Prop := ∀ i (h : i + 1 < l.length), cmpT l[i].data.toList l[i + 1].data.toList < 0
def GTypes (ns l : List ByteArray) : Prop := (∀ s ∈ l, s ∈ ns) ∧ RisN' l
def kbase (kind : ByteArray) : ByteArray := if hdB kind setP = true then rest4 kind else kind
def GKind (ns : List ByteArray) (kind : ByteArray) : Prop := (hdB (kbase kind) refP = true ∧ rest4 (kbase kind) ∈ ns) ∨ (hdB (kbase kind) refP = false ∧ kbase kind ∈ six)
def GAttr (ns : List ByteArray) (a : AttrKindT) : Prop := goodName a.f0 = true ∧ GKind ns a.f1
def GAttrs (ns : List ByteArray) (l : List AttrKindT) : Prop := (l.length ≤ 20 ∧ ∀ a ∈ l, GAttr ns a) ∧ RisN' (l.map (·.f0))
set_option maxRecDepth 20000 in
set_option maxHeartbeats 4000000 in
theorem l11GoodTypes_n (h0 h1 : Hd) (ts : List ThingTypeT) (h : Hd) (l : List ByteArray) (w : World) (lt : ts.length ≤ maxLen) (ll : l.length ≤ maxLen) (ho : ∀ q ∈ l, ByteArray.size q ≤ maxLen) (st : SqThingType w 0 h0 ts) (sl : SqS w 0 h l) :
    Calls Try.prog 48 #[.agg #[.slice h0.a h0.len h0.cap, .slice h1.a h1.len h1.cap], .slice h.a h.len h.cap] w fun r w' => RetB r (GTypes (ts.map (·.f0)) l) ∧ Below w.heap.size w w' := by
  have q1 := hide (fun (s : ByteArray) (w' : World) (hb : Below w.heap.size w w') => l11ThingType_n h0 h1 ts s w' lt (st.keep hb))
  have q2 := hide (fun (w' : World) (hb : Below w.heap.size w w') => l3Rising_n h l w' ll ho (sl.keep hb))
  have D : Hid (GTypes (ts.map (·.f0)) l ↔ ((∀ s ∈ l, s ∈ ts.map (·.f0)) ∧ RisN' l)) := hide Iff.rfl
  generalize GTypes (ts.map (·.f0)) l = G at D ⊢
  generalize ts.map (·.f0) = ns at D q1
  have HL := hide sl.1
  have LM : h.len ≤ maxLen := by rw [sl.1]; exact ll
  unfold maxLen at LM
  have SL := hide sl
  have R := hide (RowIs.new w #[.slice h0.a h0.len h0.cap, .slice h1.a h1.len h1.cap] 53)
  have B := hide (bAl (Below.refl w.heap.size w) (.cells #[.slice h0.a h0.len h0.cap, .slice h1.a h1.len h1.cap] 53))
  clear lt ll ho st sl
  obtain ⟨a, len, cap⟩ := h
  simp only at HL LM
  go_enter Try.func48, Try.ntmps48
  go_wp2_with fail
  go_loopw [11] (fun i w' => ∃ k : Nat, k ≤ len ∧ i = .int .i64 k ∧ Hid (Below w.heap.size w w') ∧ Hid (RowIs w' w.heap.size #[.slice h0.a h0.len h0.cap, .slice h1.a h1.len h1.cap] 53) ∧ Hid (∀ i (h : i < l.length), i < k → l[i] ∈ ns)) (fun i _ => len - (intOf i).toNat)
  case atStart => exact ⟨0, Nat.zero_le _, rfl, B, R, hide (fun i _ h => absurd h (Nat.not_lt_zero _))⟩
  case round =>
    clear B R
    obtain ⟨k, hk, rfl, B, R, hA⟩ := hrel
    by_cases hlt : k < len
    case neg =>
      have ALL : Hid (∀ s ∈ l, s ∈ ns) := hide (fun s hs => by
        obtain ⟨i, hi, rfl⟩ := List.getElem_of_mem hs
        exact unhide hA i hi (by have := unhide HL; omega))
      clear hA q1
      go_wp2_with fail
      refine (unhide q2 _ (unhide B)).mono ?_
      rintro r w1 ⟨⟨v, rfl, hv⟩, hb⟩
      have HV := hide hv
      replace B := hide (bTr (unhide B) hb)
      clear hb hv q2
      go_wp2_with fail
      go_ret
      exact ⟨retB (b := v) ((unhide HV).trans ⟨fun h => (unhide D).2 ⟨unhide ALL, h⟩, fun h => ((unhide D).1 h).2⟩), unhide B⟩
    have hk' : k < l.length := by have := unhide HL; omega
    obtain ⟨b1, off1, e1, row1⟩ := ((unhide SL).keep (unhide B)).sl.at hlt
    simp only at e1
    subst e1
    have n0 := row1.c k hk'
    have r0 := (unhide R).at (o := 0) (v := .slice h0.a h0.len h0.cap) rfl
    have r1 := (unhide R).at (o := 1) (v := .slice h1.a h1.len h1.cap) rfl
    have q3 := hide (unhide q1 l[k])
    have NOP : Hid (¬ l[k] ∈ ns → ¬ G) := hide (fun g h => g (((unhide D).1 h).1 _ (List.getElem_mem hk')))
    have STP : Hid (l[k] ∈ ns → ∀ i (h : i < l.length), i < k + 1 → l[i] ∈ ns) := hide (fun g i hi h1 => by
      rcases Nat.lt_or_ge i k with h2 | h2
      · exact unhide hA i hi h2
      · obtain rfl : i = k := by omega
        exact g)
    clear row1 hA
    generalize (l[k] ∈ ns) = PP at q3 NOP STP
    generalize l[k] = s at *
    go_wp2_with fail
    refine (unhide q3 _ (unhide B)).mono ?_
    rintro r w1 ⟨⟨x, b, rfl, hv⟩, hb⟩
    have HV := hide hv
    replace R := hide (((unhide R).keep hb).keep (bAl (Below.refl _ _) (.cells #[.string x.t.f0, .slice x.h1.a x.h1.len x.h1.cap, .slice x.h2.a x.h2.len x.h2.cap] 90)))
    replace B := hide (bAl (bTr (unhide B) hb) (.cells #[.string x.t.f0, .slice x.h1.a x.h1.len x.h1.cap, .slice x.h2.a x.h2.len x.h2.cap] 90))
    clear hb hv q3 n0 r0 r1
    cases b
    · have no := hide (unhide NOP (fun h => by have := (unhide HV).2 h; cases this))
      clear NOP STP HV D
      go_wp2_with fail
      go_ret
      exact ⟨retB (b := false) ⟨fun h => (by cases h), fun h => absurd h (unhide no)⟩, unhide B⟩
    · have S := hide (unhide STP ((unhide HV).1 rfl))
      clear NOP STP HV
      go_wp2_with fail
      exact ⟨⟨k + 1, by omega, by go_num, B, R, S⟩, by simp [intOf]; omega⟩
end Go.Proofs.Ytkfbecelfkbkkaa.V
