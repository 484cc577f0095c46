/- impl.meetsParts (43), impl.Like (16). -/
import Derived.Test.YthbakjnojjkmmaaPat
import Derived.Test.YthbakjnojjkmmaaValS
namespace Go.Proofs.Ythbakjnojjkmmaa
open Go.RowKit

def ownI : Option UInt8 → Int
  | none => 0
  | some c => c.toNat
structure PartIn (w : World) (g o : Nat) (t : Option UInt8) : Prop where
  c0 : w.cell? ⟨g, o, none⟩ = some (.bool t.isNone)
  c1 : w.cell? ⟨g, o + 1, none⟩ = some (.int .u8 (ownI t))
/-- The slice a, len reads as the tokens ts. -/
def SlP (w : World) (a : Option Addr) (len : Nat) (ts : List (Option UInt8)) : Prop :=
  len = ts.length ∧ (ts = [] ∨ ∃ g, a = some ⟨g, 0, none⟩ ∧ g < w.heap.size ∧ ∀ i (h : i < ts.length), PartIn w g (i * 2) ts[i])
theorem SlP.keep {w w1 : World} {a : Option Addr} {len : Nat} {ts : List (Option UInt8)} (h : SlP w a len ts) (hb : Below w.heap.size w w1) : SlP w1 a len ts :=
  ⟨h.1, by
    rcases h.2 with e | ⟨g, e, z, r⟩
    · exact .inl e
    · exact .inr ⟨g, e, Nat.lt_of_lt_of_le z hb.size, fun i hi => ⟨cellB hb z (r i hi).c0, cellB hb z (r i hi).c1⟩⟩⟩
theorem SlP.at {w : World} {a : Option Addr} {len : Nat} {ts : List (Option UInt8)} (h : SlP w a len ts) {k : Nat} (hk : k < len) :
    ∃ g, a = some ⟨g, 0, none⟩ ∧ g < w.heap.size ∧ ∀ i (h : i < ts.length), PartIn w g (i * 2) ts[i] := by
  rcases h.2 with e | e
  · rw [h.1, e] at hk; simp at hk
  · exact e

theorem flat_at : ∀ (ts : List (Option UInt8)) (i : Nat) (h : i < ts.length), (ts.flatMap partV)[i * 2]? = some (.bool (ts[i]).isNone) ∧ (ts.flatMap partV)[i * 2 + 1]? = some (.int .u8 (ownI ts[i]))
  | t :: ts, 0, _ => by cases t <;> simp [partV, ownI]
  | t :: ts, i + 1, h => by
    have ih := flat_at ts i (by simpa using h)
    have e : (t :: ts).flatMap partV = partV t ++ ts.flatMap partV := by simp
    have hl : (partV t).length = 2 := by cases t <;> rfl
    rw [e, List.getElem?_append_right (by rw [hl]; omega), List.getElem?_append_right (by rw [hl]; omega), hl]
    rw [show (i + 1) * 2 - 2 = i * 2 by omega, show (i + 1) * 2 + 1 - 2 = i * 2 + 1 by omega]
    simpa using ih

theorem own_parts {w : World} {base : Nat} {v : Value} {ts : List (Option UInt8)} (h : w.ownsRow base 92 2 v ts.length (ts.flatMap partV)) : ∃ a cap, v = .slice a ts.length cap ∧ SlP w a ts.length ts := by
  rcases h.2 with ⟨rfl, e⟩ | ⟨g, cap, cur, rfl, _, hh, _, _, hsz, htk⟩
  · have : ts = [] := List.length_eq_zero_iff.1 e
    subst this
    exact ⟨none, 0, rfl, rfl, .inl rfl⟩
  · refine ⟨_, _, rfl, rfl, .inr ⟨g, rfl, (Array.getElem?_eq_some_iff.1 hh).1, fun i hi => ?_⟩⟩
    have hr : RowIs w g cur 92 := hh
    obtain ⟨f0, f1⟩ := flat_at ts i hi
    rw [← htk] at f0 f1
    refine ⟨?_, ?_⟩
    · rw [hr.cell, ← Array.getElem?_toList]
      rw [List.getElem?_take] at f0
      split at f0
      · exact f0
      · cases f0
    · rw [hr.cell, ← Array.getElem?_toList]
      rw [List.getElem?_take] at f1
      split at f1
      · exact f1
      · cases f1

theorem int_eq {k : IntKind} {a b : Int} (h : a = b) : Value.int k a = .int k b := by rw [h]
theorem u8_inj {a b : UInt8} (h : (a.toNat : Int) = (b.toNat : Int)) : a = b := UInt8.toNat_inj.1 (by omega)

theorem drop_all_none {ts : List (Option UInt8)} {p : Nat} (h : p = ts.length) : ∀ t ∈ ts.drop p, t = none := by
  rw [h, List.drop_length]; simp

set_option maxHeartbeats 2000000 in
theorem meetsParts_any (s : ByteArray) (a : Option Addr) (len cap : Nat) (ts : List (Option UInt8)) (w : World) (hs : s.size ≤ 200) (hl : len ≤ 200) (hp : SlP w a len ts) :
    Calls Try.prog 43 #[.string s, .slice a len cap] w fun e w' => RetB e (Mt ts s.data.toList) ∧ Below w.heap.size w w' := by
  have HP := hide hp
  have EL := hide hp.1
  have ES : Hid (s.data.toList.length = s.size) := hide (by simp)
  clear hp
  go_enter Try.func43, Try.ntmps43
  go_wp2
  go_loopw [5, 6, 7, 8] (fun x1 x2 x3 x4 w' => ∃ i part st taken : Nat, i ≤ s.size ∧ part ≤ len ∧ st ≤ len ∧ taken ≤ s.size ∧ x1 = .int .i64 i ∧ x2 = .int .i64 part ∧ x3 = .int .i64 ((st : Int) - 1) ∧ x4 = .int .i64 taken
      ∧ Hid (Below w.heap.size w w') ∧ Hid (Gr ts s.data.toList i part st taken)) (fun _ x2 x3 x4 _ => (201 - (intOf x3 + 1).toNat) * 100000 + (201 - (intOf x4).toNat) * 300 + (201 - (intOf x2).toNat))
  case atStart => exact ⟨0, 0, 0, 0, Nat.zero_le _, Nat.zero_le _, Nat.zero_le _, Nat.zero_le _, rfl, rfl, rfl, rfl, hide (Below.refl _ _), hide (Gr.start _ _)⟩
  case round =>
    obtain ⟨i, part, st, taken, hi, hpt, hst, htk, rfl, rfl, rfl, rfl, hb, hg⟩ := hrel
    by_cases hlt : i < s.size
    · obtain ⟨c, hc⟩ : ∃ c, s[i] = c := ⟨_, rfl⟩
      have ii : i < s.data.toList.length := by rw [unhide ES]; exact hlt
      have HC : Hid (s.data.toList[i] = c) := hide hc
      have dlt : (i : Int) < (s.size : Int) := by omega
      have hsp : st ≤ part := by
        by_cases z : 0 < st
        · exact ((unhide hg).lit z).1
        · omega
      by_cases hp2 : part < len
      · obtain ⟨g, rfl, zg, hcells⟩ := ((unhide HP).keep (unhide hb)).at hp2
        have hp' : part < ts.length := by rw [← unhide EL]; exact hp2
        obtain ⟨p0, p1⟩ := hcells part hp'
        have dp : (part : Int) < (len : Int) := by omega
        have dp0 : (0 : Int) ≤ (part : Int) := by omega
        cases ht : ts[part] with
        | none =>
          rw [ht] at p0
          have G := hide ((unhide hg).star hp' ht)
          clear p1 hcells ht
          go_wp2_with fail
          exact ⟨⟨i, part + 1, part + 1, i, hi, by omega, by omega, hi, rfl, by go_num, int_eq (by omega), rfl, hb, G⟩, by simp [intOf]; omega⟩
        | some d =>
          rw [ht] at p0 p1
          have e0 : ownI (some d) = (d.toNat : Int) := rfl
          rw [e0] at p1
          clear hcells e0
          by_cases hdc : d = c
          · have G := hide ((unhide hg).own hp' ii (by rw [ht, unhide HC, hdc]))
            subst hdc
            clear ht
            go_wp2_with fail
            go_quiet (fail)
            go_wp2_with fail
            exact ⟨⟨i + 1, part + 1, st, taken, by omega, by omega, hst, htk, by go_num, by go_num, rfl, rfl, hide (below_drewN (unhide hb) _), G⟩, by simp [intOf]; omega⟩
          · have M : Hid (Miss ts s.data.toList i part) := hide ⟨ii, .inr ⟨hp', ii, d, ht, by rw [unhide HC]; exact hdc⟩⟩
            have dd : ((d.toNat : Int) == (c.toNat : Int)) = false := by
              rw [beq_eq_false_iff_ne]; exact fun h => hdc (u8_inj h)
            clear ht hdc
            cases hst0 : decide (0 ≤ (st : Int) - 1)
            · have z : st = 0 := by simp at hst0; omega
              subst z
              have G := hide ((unhide hg).fail (unhide M))
              clear hst0
              go_wp2_with fail
              go_quiet (fail)
              go_wp2_with fail
              go_ret
              exact ⟨retB (b := false) ⟨fun h => (by cases h), fun h => absurd h (unhide G)⟩, below_drewN (unhide hb) _⟩
            · have z : 0 < st := by simp at hst0; omega
              have G := hide ((unhide hg).back (unhide M) z)
              have tb := (unhide G).b1
              rw [unhide ES] at tb
              go_wp2_with fail
              go_quiet (fail)
              go_wp2_with fail
              exact ⟨⟨taken + 1, st, st, taken + 1, tb, hst, hst, tb, by go_num, int_eq (by omega), rfl, by go_num, hide (below_drewN (unhide hb) _), G⟩, by simp [intOf]; omega⟩
      · have M : Hid (Miss ts s.data.toList i part) := hide ⟨ii, .inl (by rw [← unhide EL]; omega)⟩
        have dp : decide ((part : Int) < (len : Int)) = false := by simp; omega
        cases hst0 : decide (0 ≤ (st : Int) - 1)
        · have z : st = 0 := by simp at hst0; omega
          subst z
          have G := hide ((unhide hg).fail (unhide M))
          clear hst0
          go_wp2_with fail
          go_quiet (fail)
          go_wp2_with fail
          go_ret
          exact ⟨retB (b := false) ⟨fun h => (by cases h), fun h => absurd h (unhide G)⟩, below_drewN (unhide hb) _⟩
        · have z : 0 < st := by simp at hst0; omega
          have G := hide ((unhide hg).back (unhide M) z)
          have tb := (unhide G).b1
          rw [unhide ES] at tb
          go_wp2_with fail
          go_quiet (fail)
          go_wp2_with fail
          exact ⟨⟨taken + 1, st, st, taken + 1, tb, hst, hst, tb, by go_num, int_eq (by omega), rfl, by go_num, hide (below_drewN (unhide hb) _), G⟩, by simp [intOf]; omega⟩
    · have e : i = s.data.toList.length := by rw [unhide ES]; omega
      have hf : Hid (Mt ts s.data.toList ↔ ∀ t ∈ ts.drop part, t = none) := hide (by have := unhide hg; rw [e] at this; exact this.finish)
      clear e hg
      obtain ⟨wo, rfl⟩ : ∃ wo : World, wo = wr := ⟨_, rfl⟩
      have HPo := hide ((unhide HP).keep (unhide hb))
      go_wp2_with fail
      go_loop [6] (fun x => ∃ q : Nat, part ≤ q ∧ q ≤ len ∧ x = .int .i64 q ∧ Hid (∀ j (h : j < ts.length), part ≤ j → j < q → ts[j] = none)) (fun x => len - (intOf x).toNat)
      case atStart => exact ⟨part, Nat.le_refl _, hpt, rfl, hide (fun j _ h1 h2 => absurd h1 (by omega))⟩
      case round =>
        obtain ⟨q, hq1, hq2, rfl, hq⟩ := hrel
        by_cases hql : q < len
        · have hq' : q < ts.length := by rw [← unhide EL]; exact hql
          obtain ⟨g, rfl, zg, hcells⟩ := (unhide HPo).at hql
          obtain ⟨p0, p1⟩ := hcells q hq'
          cases ht : ts[q] with
          | none =>
            rw [ht] at p0
            have hn : Hid (∀ j (h : j < ts.length), part ≤ j → j < q + 1 → ts[j] = none) := hide (fun j h h1 h2 => by
              by_cases e : j = q
              · subst e; exact ht
              · exact unhide hq j h h1 (by omega))
            clear p1 hcells ht
            go_wp2_with fail
            exact ⟨⟨q + 1, by omega, by omega, by go_num, hn⟩, by simp [intOf]; omega⟩
          | some d =>
            rw [ht] at p0
            have hn : Hid (¬ Mt ts s.data.toList) := hide (by
              rw [unhide hf]
              intro h
              have hm : ts[q] ∈ ts.drop part := by
                rw [show ts[q] = (ts.drop part)[q - part]'(by simp; omega) by simp; congr 1; omega]
                exact List.getElem_mem _
              have := h _ hm
              rw [ht] at this
              cases this)
            have dne : ((q : Int) == (len : Int)) = false := by simp; omega
            clear p1 hcells ht
            go_wp2_with fail
            go_ret
            exact ⟨retB (b := false) ⟨fun h => (by cases h), fun h => absurd h (unhide hn)⟩, unhide hb⟩
        · have hy : Hid (Mt ts s.data.toList) := hide (by
            rw [unhide hf]
            intro t ht
            obtain ⟨j, hj, rfl⟩ := List.getElem_of_mem ht
            simp at hj ⊢
            exact unhide hq (part + j) (by omega) (by omega) (by have := unhide EL; omega))
          have deq : ((q : Int) == (len : Int)) = true := by simp; omega
          have dp : decide ((q : Int) < (len : Int)) = false := by simp; omega
          go_wp2_with fail
          go_ret
          exact ⟨retB (b := true) ⟨fun _ => unhide hy, fun _ => rfl⟩, unhide hb⟩
end Go.Proofs.Ythbakjnojjkmmaa
