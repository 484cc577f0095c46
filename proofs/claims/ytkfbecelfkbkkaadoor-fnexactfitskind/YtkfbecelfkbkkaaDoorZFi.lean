/- FitsKind, both sides: the walks. -/
import Derived.Test.YtkfbecelfkbkkaaDoorZFj
namespace Go.Proofs.YtkfbecelfkbkkaaDoor.V
set_option linter.unusedSimpArgs false
set_option linter.unusedVariables false
open Go.RowKit

set_option maxRecDepth 20000 in
set_option maxHeartbeats 4000000 in
theorem iFitsKind_any (v : ValT) (h2 h3 : Hd) (kind : ByteArray) (w : World) (ho : v.Ok) (l2 : v.items.length ≤ maxLen) (m2 : SqA w 0 h2 v.items) (m3 : SqS w 0 h3 v.names) (hk : kind.size ≤ maxLen) (hT : Words w) :
    Calls Tryd.prog 7 #[.agg #[.int .i64 v.k, .int .i64 v.a.x, .int .i64 v.a.n, .string v.a.t, .string v.a.y, .slice h2.a h2.len h2.cap, .slice h3.a h3.len h3.cap], .string kind] w fun e w' => RetB e (Fits v kind) ∧ Below w.heap.size w w' := by
  have D := hide (fits_iff v kind)
  generalize Fits v kind = G at D ⊢
  have q1 := hide (fun w (m2 : SqA w 0 h2 v.items) (m3 : SqS w 0 h3 v.names) => iGoodValue_any v ho h2.a h3.a h2.len h2.cap h3.len h3.cap w (by rw [m2.1]; exact l2) m2.sl m3.sl)
  have q2 := hide (fun w => isKind_name (fun s => goodName s = true) kind w hk (fun s hs w' _ => (iGoodName_any s hs w').mono fun _ _ ⟨a, b⟩ => ⟨⟨_, a, Iff.rfl⟩, b⟩))
  have q3 := hide (fun w => cutPrefix_any kind ⟨#[115, 101, 116, 32]⟩ w hk (by show (4 : Nat) ≤ maxLen; unfold maxLen; omega))
  have q4 := hide (fun (hg : v.a.good = true) w hT => kindOfAtom_any v.a w hg hT)
  have q5 := hide (fun (hg : GoodVal v) (item : ByteArray) (bc : Nat) (w : World) (m2 : SqA w 0 h2 v.items) (hc : w.cell? ⟨bc, 0, none⟩ = some (.string item)) (hT : Words w) =>
    every_fit bc (fun a => akind a = item) h2 v.items w l2 m2 (fun x hx w' hb => fits1_any x item bc w' (goodVal_items hg x hx) (cellB hb (World.block_lt_of_cell? w ⟨bc, 0, none⟩ hc) hc) (hT.keep hb)))
  have R := hide (RowIs.new w #[.int .i64 v.k, .int .i64 v.a.x, .int .i64 v.a.n, .string v.a.t, .string v.a.y, .slice h2.a h2.len h2.cap, .slice h3.a h3.len h3.cap] 33)
  have B := hide (bAl (Below.refl w.heap.size w) (.cells #[.int .i64 v.k, .int .i64 v.a.x, .int .i64 v.a.n, .string v.a.t, .string v.a.y, .slice h2.a h2.len h2.cap, .slice h3.a h3.len h3.cap] 33))
  have M2 := hide m2
  have M3 := hide m3
  have HT := hide hT
  clear ho l2 m2 m3 hk hT
  go_enter Tryd.func7, Tryd.ntmps7
  go_wp2_with fail
  refine (unhide q1 _ ((unhide M2).keep (unhide B)) ((unhide M3).keep (unhide B))).mono ?_
  rintro r w1 ⟨⟨b1, rfl, hb1⟩, hb⟩
  replace R := hide ((unhide R).keep hb)
  replace B := hide (bTr (unhide B) hb)
  have H1 := hide hb1
  clear hb hb1 q1
  cases b1
  case false =>
    have no : Hid (¬ G) := hide (fun h => by have := (unhide H1).2 ((unhide D).2 h).1; cases this)
    clear D H1 q2 q3 q4 q5
    go_wp2_with fail
    go_ret
    exact ⟨retB (b := false) ⟨fun h => (by cases h), fun h => absurd h (unhide no)⟩, unhide B⟩
  replace H1 := hide ((unhide H1).1 rfl)
  go_wp2_with fail
  refine (unhide q2 _).mono ?_
  rintro r w2 ⟨⟨b2, rfl, hb2⟩, hb⟩
  replace R := hide ((unhide R).keep hb)
  replace B := hide (bTr (unhide B) hb)
  have H2 := hide hb2
  clear hb hb2 q2
  cases b2
  case false =>
    have no : Hid (¬ G) := hide (fun h => by have := (unhide H2).2 ((unhide D).2 h).2.1; cases this)
    clear D H1 H2 q3 q4 q5
    go_wp2_with fail
    go_ret
    exact ⟨retB (b := false) ⟨fun h => (by cases h), fun h => absurd h (unhide no)⟩, unhide B⟩
  replace H2 := hide ((unhide H2).1 rfl)
  have D2 : Hid (G ↔ ((preB kind setP = false ∧ v.k = 1 ∧ akind v.a = kind) ∨ (preB kind setP = true ∧ v.k = 2 ∧ ∀ a ∈ v.items, akind a = cutB kind setP))) := hide ⟨fun h => ((unhide D).2 h).2.2, fun h => (unhide D).1 ⟨unhide H1, unhide H2, h⟩⟩
  clear D H2
  go_wp2_with fail
  refine (unhide q3 _).mono ?_
  rintro r w3 ⟨rfl, rfl⟩
  clear q3
  have e1 : preB kind ⟨#[115, 101, 116, 32]⟩ = preB kind setP := rfl
  have e2 : cutB kind ⟨#[115, 101, 116, 32]⟩ = cutB kind setP := rfl
  rw [e1, e2]
  clear e1 e2
  cases hp : preB kind setP
  · rw [hp] at D2
    generalize cutB kind setP = item at D2 ⊢
    by_cases k1 : v.k = 1
    · have hga := goodVal_atom (unhide H1) k1
      have D3 : Hid (G ↔ akind v.a = kind) := hide ((unhide D2).trans ⟨fun h => h.elim (fun h => h.2.2) (fun h => by cases h.1), fun h => .inl ⟨rfl, k1, h⟩⟩)
      have d1 : (v.k == 1) = true := by simp [k1]
      have B3 := hide (bAl (unhide B) (.cells #[.string item] 9))
      have R3 := hide ((unhide R).keep (bAl (Below.refl _ _) (.cells #[.string item] 9)))
      have TT := hide ((unhide HT).keep (unhide B3))
      have c0 := (unhide R3).at (o := 0) (v := .int .i64 v.k) rfl
      have c1 := (unhide R3).at (o := 1) (v := .int .i64 v.a.x) rfl
      have c2 := (unhide R3).at (o := 2) (v := .int .i64 v.a.n) rfl
      have c3 := (unhide R3).at (o := 3) (v := .string v.a.t) rfl
      have c4 := (unhide R3).at (o := 4) (v := .string v.a.y) rfl
      clear D2 hp k1 H1 q5 B R HT
      go_wp2_with fail
      refine (unhide q4 hga _ (unhide TT)).mono ?_
      rintro r w4 ⟨rfl, hb⟩
      replace B3 := hide (bTr (unhide B3) hb)
      clear hb q4 c0 c1 c2 c3 c4
      generalize akind v.a = K at D3 ⊢
      by_cases he : K = kind
      · have yes := hide ((unhide D3).2 he)
        have e := (show (K.toList == kind.toList) = true by rw [he]; exact str_eqY _)
        clear he D3
        go_wp2_with fail
        go_ret
        exact ⟨retB (b := true) ⟨fun _ => unhide yes, fun _ => rfl⟩, unhide B3⟩
      · have no := hide (fun h => he ((unhide D3).1 h))
        have e := str_neY he
        clear he D3
        go_wp2_with fail
        go_ret
        exact ⟨retB (b := false) ⟨fun h => (by cases h), fun h => absurd h (unhide no)⟩, unhide B3⟩
    · have no : Hid (¬ G) := hide (fun h => ((unhide D2).1 h).elim (fun h => k1 h.2.1) (fun h => by cases h.1))
      have d1 : (v.k == 1) = false := by simpa using k1
      have B3 := hide (bAl (unhide B) (.cells #[.string item] 9))
      have R3 := hide ((unhide R).keep (bAl (Below.refl _ _) (.cells #[.string item] 9)))
      have c0 := (unhide R3).at (o := 0) (v := .int .i64 v.k) rfl
      clear D2 hp k1 H1 q4 q5 B R
      go_wp2_with fail
      go_ret
      exact ⟨retB (b := false) ⟨fun h => (by cases h), fun h => absurd h (unhide no)⟩, unhide B3⟩
  · rw [hp] at D2
    generalize cutB kind setP = item at D2 ⊢
    have B3 := hide (bAl (unhide B) (.cells #[.string item] 9))
    have R3 := hide ((unhide R).keep (bAl (Below.refl _ _) (.cells #[.string item] 9)))
    by_cases k2 : v.k = 2
    · have D3 : Hid (G ↔ ∀ a ∈ v.items, akind a = item) := hide ((unhide D2).trans ⟨fun h => h.elim (fun h => by cases h.1) (fun h => h.2.2), fun h => .inr ⟨rfl, k2, h⟩⟩)
      have d1 : (v.k == 2) = true := by simp [k2]
      have TT := hide ((unhide HT).keep (unhide B3))
      obtain ⟨W3, hW3⟩ : ∃ W, W = w2.alloc (.cells #[.string item] 9) := ⟨_, rfl⟩
      have q6 : Hid (Calls Tryd.prog 24 #[.slice h2.a h2.len h2.cap, .func (.func 25) #[] #[.pointer (some ⟨w2.heap.size, 0, none⟩)]] W3 fun e w' => RetB e (∀ a ∈ v.items, akind a = item) ∧ Below W3.heap.size W3 w') :=
        hide (unhide q5 (unhide H1) item w2.heap.size W3 (by rw [hW3]; exact (unhide M2).keep (unhide B3)) (by rw [hW3]; exact (RowIs.new w2 #[.string item] 9).at rfl) (by rw [hW3]; exact unhide TT))
      have HW3 := hide hW3.symm
      have B4 : Hid (Below w.heap.size w W3) := hide (by rw [hW3]; exact unhide B3)
      have c0 := (unhide R3).at (o := 0) (v := .int .i64 v.k) rfl
      have c5 := (unhide R3).at (o := 5) (v := .slice h2.a h2.len h2.cap) rfl
      clear D2 hp k2 H1 q5 q4 B R HT hW3 TT
      go_wp2_with fail
      rw [unhide HW3]
      refine (unhide q6).mono ?_
      rintro r w4 ⟨⟨b, rfl, hbb⟩, hb⟩
      have HB := hide hbb
      have B5 := hide (bTr (unhide B4) hb)
      clear hb hbb q6 c0 c5 HW3 B3 R3 B4
      go_wp2_with fail
      go_ret
      exact ⟨retB (b := b) ((unhide HB).trans (unhide D3).symm), unhide B5⟩
    · have no : Hid (¬ G) := hide (fun h => ((unhide D2).1 h).elim (fun h => by cases h.1) (fun h => k2 h.2.1))
      have d1 : (v.k == 2) = false := by simpa using k2
      have c0 := (unhide R3).at (o := 0) (v := .int .i64 v.k) rfl
      clear D2 hp k2 H1 q4 q5 B R
      go_wp2_with fail
      go_ret
      exact ⟨retB (b := false) ⟨fun h => (by cases h), fun h => absurd h (unhide no)⟩, unhide B3⟩
end Go.Proofs.YtkfbecelfkbkkaaDoor.V
