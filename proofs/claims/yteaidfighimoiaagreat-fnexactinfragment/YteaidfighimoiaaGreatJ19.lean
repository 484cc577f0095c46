/- FRp, FRs, one behind the other. -/
import Derived.Test.YteaidfighimoiaaGreatJ17
import Derived.Test.YteaidfighimoiaaGreatJ18
/- Policies in the fragment: pure. -/
namespace Go.Proofs.YteaidfighimoiaaGreat.V
open Go.RowKit Go.Maps

abbrev bPri : ByteArray := ⟨#[112, 114, 105, 110, 99, 105, 112, 97, 108]⟩
abbrev bAct : ByteArray := ⟨#[97, 99, 116, 105, 111, 110]⟩
abbrev bRes : ByteArray := ⟨#[114, 101, 115, 111, 117, 114, 99, 101]⟩
abbrev bCon : ByteArray := ⟨#[99, 111, 110, 116, 101, 120, 116]⟩
def zT : ET := .node zX []
def VarT (ws : List ByteArray) (t : ET) : Prop := t.n.f0 = 3 ∧ t.n.f1 ∈ ws
def LitT (t : ET) : Prop := t.n.f0 = 1
def PathT (t : ET) : Prop := t.n.f0 = 4 ∧ VarT [bPri, bRes, bCon] (t.kids.getD 0 zT)
/-- What stands in the fragment, no deeper than r. -/
def FragN : Nat → ET → Prop
  | 0, _ => False
  | r + 1, .node x ks =>
    if x.f0 = 1 then x.f2 = 1
    else if x.f0 = 4 ∨ x.f0 = 5 then VarT [bPri, bRes, bCon] (ks.getD 0 zT)
    else if x.f0 = 6 ∨ x.f0 = 8 ∨ x.f0 = 9 ∨ x.f0 = 10 then ∀ k ∈ ks, FragN r k
    else if x.f0 = 21 then VarT [bPri, bRes] (ks.getD 0 zT)
    else if x.f0 = 17 then LitT (ks.getD 1 zT) ∧ VarT [bPri, bRes, bAct] (ks.getD 0 zT)
    else if x.f0 = 18 then LitT (ks.getD 1 zT) ∧ PathT (ks.getD 0 zT)
    else if x.f0 = 11 then (LitT (ks.getD 1 zT) ∧ VarT [bPri, bRes, bAct] (ks.getD 0 zT)) ∨ (LitT (ks.getD 1 zT) ∧ PathT (ks.getD 0 zT)) ∨ (PathT (ks.getD 1 zT) ∧ LitT (ks.getD 0 zT))
    else if x.f0 = 12 ∨ x.f0 = 13 then (LitT (ks.getD 1 zT) ∧ PathT (ks.getD 0 zT)) ∨ (PathT (ks.getD 1 zT) ∧ LitT (ks.getD 0 zT))
    else False
/-- A tree each of whose nodes has as many kids as its kind has. -/
inductive Fit : ET → Prop
  | mk {x : ExprT} {ks : List ET} (hn : NodeP x) (h6 : x.f6 = (ks.length : Int)) (hk : ∀ k ∈ ks, Fit k) (h2 : x.f0 = 2 → ∀ k ∈ ks, k.n.f0 = 1) : Fit (.node x ks)
theorem Fit.out {x : ExprT} {ks : List ET} (h : Fit (.node x ks)) : NodeP x ∧ x.f6 = (ks.length : Int) ∧ (∀ k ∈ ks, Fit k) ∧ (x.f0 = 2 → ∀ k ∈ ks, k.n.f0 = 1) := by
  cases h with | mk hn h6 hk h2 => exact ⟨hn, h6, hk, h2⟩
theorem takeK_fit {r : Nat} (ih : ∀ l t l', growT r l = some (t, l') → Fit t) : ∀ (n : Nat) (l : List ExprT) (ks : List ET) (l' : List ExprT), takeK (growT r) n l = some (ks, l') → ks.length = n ∧ ∀ k ∈ ks, Fit k
  | 0, l, ks, l', h => by simp [takeK] at h; obtain ⟨rfl, rfl⟩ := h; exact ⟨rfl, by simp⟩
  | n + 1, l, ks, l', h => by
    simp only [takeK, Option.bind_eq_some_iff, Option.map_eq_some_iff, Prod.exists, Prod.mk.injEq] at h
    obtain ⟨t, r1, h1, ts, r2, h2, rfl, rfl⟩ := h
    obtain ⟨a, b⟩ := takeK_fit ih n _ _ _ h2
    exact ⟨by simp [a], by simpa using ⟨ih _ _ _ h1, b⟩⟩
theorem Fit.grow : ∀ (r : Nat) (l : List ExprT) (t : ET) (l' : List ExprT), growT r l = some (t, l') → Fit t
  | 0, l, t, l', h => by simp [growT] at h
  | r + 1, [], t, l', h => by simp [growT] at h
  | r + 1, x :: l, t, l', h => by
    simp only [growT] at h
    split at h
    · rename_i hn
      obtain ⟨⟨ks, q⟩, h1, h2⟩ := Option.bind_eq_some_iff.1 h
      split at h2
      · rename_i h3
        obtain ⟨rfl, rfl⟩ := by simpa using h2
        obtain ⟨a1, a2⟩ := takeK_fit (Fit.grow r) _ _ _ _ h1
        have := hn.kids
        exact .mk hn (by omega) a2 h3
      · cases h2
    · cases h
theorem Fit.len {x : ExprT} {ks : List ET} (h : Fit (.node x ks)) (h2 : x.f0 ≠ 2) : (ks.length : Int) = ari x.f0 := by
  obtain ⟨hn, h6, _, _⟩ := h.out
  have := hn.2.1
  unfold kidP at this
  rw [if_neg h2] at this
  omega
end Go.Proofs.YteaidfighimoiaaGreat.V
/- spec.l14V, l14Path. -/
namespace Go.Proofs.YteaidfighimoiaaGreat.V
open Go.RowKit Go.Maps

set_option maxHeartbeats 1000000 in
theorem l14V_any (x : ExprT) (sa : Option Addr) (sn sc : Nat) (a : Option Addr) (len cap : Nat) (ws : List ByteArray) (w : World) (hl : len ≤ 1000000) (hs : SlS w a len ws) :
    Calls Tryz.prog 31 #[agg8 x (.slice sa sn sc), .slice a len cap] w fun e w' => RetB e (x.f0 = 3 ∧ x.f1 ∈ ws) ∧ Below w.heap.size w w' := by
  obtain ⟨f0, f1, f2, f3, f4, f5, f6⟩ := x
  have HS := hide hs
  clear hs
  by_cases h3 : f0 = 3
  · subst h3
    have q := hide (fun w1 hs => l3Has_anyY a len cap ws f1 w1 hl hs)
    go_enter Tryz.func31, Tryz.ntmps31
    go_wp2_with fail
    refine (unhide q _ ((unhide HS).keep (bAl (Below.refl _ _) _))).mono ?_
    rintro e w1 ⟨⟨b, rfl, hb⟩, rfl⟩
    have HB := hide hb
    clear hb q HS
    go_wp2_with fail
    go_ret
    exact ⟨retB ((unhide HB).trans ⟨fun h => ⟨trivial, h⟩, fun h => h.2⟩), bAl (Below.refl _ _) _⟩
  · have d : (f0 == 3) = false := by simpa using h3
    go_enter Tryz.func31, Tryz.ntmps31
    go_wp2_with fail
    go_ret
    exact ⟨retB (b := false) ⟨fun h => (by cases h), fun h => absurd h.1 h3⟩, bAl (Below.refl _ _) _⟩
/-- The kid of that number. -/
theorem TrAt.kid {r : Nat} {w : World} {lo : Nat} {s : Value} {x : ExprT} {ks : List ET} (h : TrAt (r + 1) w lo s (.node x ks)) (i : Nat) (hi : i < ks.length) :
    ∃ b cap sa sn sc, s = .slice (some ⟨b, 0, none⟩) ks.length cap ∧ lo ≤ b ∧ b < w.heap.size ∧ At8 w b (i * 8) ks[i].n (.slice sa sn sc) ∧ TrAt r w lo (.slice sa sn sc) ks[i] := by
  obtain ⟨h1, h2, a, cap, h3, h4⟩ := h
  simp only [ET.kids] at h2 h3 h4
  rcases h4 with h4 | ⟨b, rfl, hl, hb, h5⟩
  · rw [h4] at hi; simp at hi
  · obtain ⟨s', g1, g2⟩ := h5 i hi
    cases r with
    | zero => exact g2.elim
    | succ r =>
      obtain ⟨_, _, sa, sc, e, _⟩ := id g2
      subst e
      exact ⟨b, cap, sa, _, sc, h3, hl, hb, g1, g2⟩
theorem TrAt.sl {r : Nat} {w : World} {lo : Nat} {s : Value} {t : ET} (h : TrAt r w lo s t) : ∃ a cap, s = .slice a t.kids.length cap := by
  cases r with
  | zero => exact h.elim
  | succ r => obtain ⟨_, _, a, cap, e, _⟩ := h; exact ⟨a, cap, e⟩
theorem row3 {w : World} {b : Nat} {x y z : ByteArray} {T : TypeId} {a : Option Addr} (h : RowIs w b #[.string x, .string y, .string z] T) (e : a = some ⟨b, 0, none⟩) : SlS w a 3 [x, y, z] := by
  refine ⟨rfl, .inr ⟨b, 0, e, h.lt, fun i hi => ?_⟩⟩
  match i, hi with
  | 0, _ => exact h.at rfl
  | 1, _ => exact h.at rfl
  | 2, _ => exact h.at rfl
theorem row2 {w : World} {b : Nat} {x y : ByteArray} {T : TypeId} {a : Option Addr} (h : RowIs w b #[.string x, .string y] T) (e : a = some ⟨b, 0, none⟩) : SlS w a 2 [x, y] := by
  refine ⟨rfl, .inr ⟨b, 0, e, h.lt, fun i hi => ?_⟩⟩
  match i, hi with
  | 0, _ => exact h.at rfl
  | 1, _ => exact h.at rfl

set_option maxRecDepth 20000 in
set_option maxHeartbeats 2000000 in
theorem l14Path_any (r : Nat) (w : World) (lo : Nat) (s : Value) (x : ExprT) (ks : List ET) (h : TrAt (r + 1) w lo s (.node x ks)) (hf : Fit (.node x ks)) :
    Calls Tryz.prog 30 #[agg8 x s] w fun e w' => RetB e (PathT (.node x ks)) ∧ Below w.heap.size w w' := by
  by_cases h4 : x.f0 = 4
  · have hl : ks.length = 1 := by have := hf.len (by omega); rw [h4] at this; simp [ari] at this; omega
    obtain ⟨b, cap, sa, sn, sc, rfl, hlo, hb, h8, htr⟩ := h.kid 0 (by omega)
    have yes : Hid (PathT (.node x ks) ↔ (ks[0].n.f0 = 3 ∧ ks[0].n.f1 ∈ [bPri, bRes, bCon])) := hide (by
      unfold PathT VarT
      simp only [ET.n, ET.kids, h4, true_and]
      rw [List.getD_eq_getElem?_getD, List.getElem?_eq_getElem (by omega)]; rfl)
    obtain ⟨W, hW⟩ : ∃ W, W = w.alloc (.cells (row8 x (.slice (some ⟨b, 0, none⟩) ks.length cap)) 47) := ⟨_, rfl⟩
    have BW : Below w.heap.size w W := by rw [hW]; exact bAl (Below.refl _ _) _
    have RW : RowIs W w.heap.size (row8 x (.slice (some ⟨b, 0, none⟩) ks.length cap)) 47 := by rw [hW]; exact RowIs.new _ _ _
    generalize ks[0].n = Y at *
    simp only [Nat.zero_mul] at h8
    have c0 := cellB BW hb h8.c0
    have c1 := cellB BW hb h8.c1
    have c2 := cellB BW hb h8.c2
    have c3 := cellB BW hb h8.c3
    have c4 := cellB BW hb h8.c4
    have c5 := cellB BW hb h8.c5
    have c6 := cellB BW hb h8.c6
    have c7 := cellB BW hb h8.c7
    have x0 := RW.at (o := 0) (v := .int .i64 4) (by rw [← h4]; rfl)
    have x7 := RW.at (o := 7) (v := .slice (some ⟨b, 0, none⟩) ks.length cap) rfl
    have zb : b < W.heap.size := Nat.lt_of_lt_of_le hb BW.size
    rw [hl] at *
    have HBW := hide BW
    have HW := hide hW.symm
    have q := hide (fun (w1 : World) (a : Option Addr) (hs : SlS w1 a 3 [bPri, bRes, bCon]) => l14V_any Y sa sn sc a 3 3 [bPri, bRes, bCon] w1 (by decide) hs)
    clear h8 htr h hf hW BW RW hlo hb hl
    obtain ⟨f0, f1, f2, f3, f4, f5, f6⟩ := x
    simp only at h4
    subst h4
    go_enter Tryz.func30, Tryz.ntmps30
    go_upto_region 1 with fail
    rw [unhide HW]
    go_wp2_with fail
    refine (unhide q _ _ (row3 (RowIs.new _ _ _) rfl)).mono ?_
    rintro e w1 ⟨⟨bb, rfl, hbb⟩, hb1⟩
    have HB := hide hbb
    have B1 := hide (bTr (bAl (unhide HBW) _) hb1)
    clear hbb hb1 q c0 c1 c2 c3 c4 c5 c6 c7 x0 x7
    go_wp2_with fail
    go_ret
    exact ⟨retB ((unhide HB).trans (unhide yes).symm), unhide B1⟩
  · obtain ⟨a, cap, e⟩ := h.sl
    subst e
    have no : Hid (¬ PathT (.node x ks)) := hide (fun h => h4 h.1)
    have d : (x.f0 == 4) = false := by simpa using h4
    clear h hf
    obtain ⟨f0, f1, f2, f3, f4, f5, f6⟩ := x
    simp only at d
    go_enter Tryz.func30, Tryz.ntmps30
    go_wp2_with fail
    go_ret
    exact ⟨retB (b := false) ⟨fun h => (by cases h), fun h => absurd h (unhide no)⟩, bAl (Below.refl _ _) _⟩
/-- The same, at any later world. -/
theorem l14Path_t {r : Nat} {w : World} {lo : Nat} {s : Value} {t : ET} (h : TrAt r w lo s t) (hf : Fit t) (w' : World) (hb : Below w.heap.size w w') :
    Calls Tryz.prog 30 #[agg8 t.n s] w' fun e w2 => RetB e (PathT t) ∧ Below w'.heap.size w' w2 := by
  cases r with
  | zero => exact h.elim
  | succ r =>
    cases t with
    | node x ks => exact l14Path_any r w' lo s x ks (h.keptY ((KeptY.refl lo w).below hb (Nat.le_refl _))) hf
end Go.Proofs.YteaidfighimoiaaGreat.V
