/- NSa, NHy, one behind the other. -/
import Derived.Test.YtpfekkhnjaopdaaGreatJ29
import Derived.Test.YtpfekkhnjaopdaaGreatJ30
import Derived.Test.YtpfekkhnjaopdaaGreatJ13
/- spec.Ancestors. -/
namespace Go.Proofs.YtpfekkhnjaopdaaGreat.V
set_option linter.unusedSimpArgs false
set_option linter.unusedVariables false
open Go.RowKit Go.Maps

set_option maxRecDepth 20000 in
set_option maxHeartbeats 4000000 in
theorem sAncestors_n (hd : Hd) (lt : List ThingE) (a : AtomT) (w : World) (hn : ∀ e ∈ lt, ThingN e.t) (hl : lt.length ≤ maxLen) (hs : SqThingE w 0 hd lt) (hao : a.Ok) :
    Calls Tryz.prog 7 #[.slice hd.a hd.len hd.cap, encA a] w fun r w' => (∃ v rr, r = .returned v ∧ AncIs (lt.map (·.t)) a rr ∧ w'.ownsRow w.heap.size 31 4 v rr.length (atomsV rr)) ∧ Below w.heap.size w w' := by
  obtain ⟨W, hW⟩ : ∃ W, W = w.alloc (.cells #[.int .i64 a.x, .int .i64 a.n, .string a.t, .string a.y] 31) := ⟨_, rfl⟩
  have bW : Below w.heap.size w W := by rw [hW]; exact bAl (Below.refl _ _) _
  have RA : Hid (RowIs W w.heap.size #[.int .i64 a.x, .int .i64 a.n, .string a.t, .string a.y] 31) := hide (by rw [hW]; exact RowIs.new _ _ _)
  have q1 := hide (sGoodThings_n hd (lt.map (·.t)) W (fun z hz => by obtain ⟨e, he, rfl⟩ := List.mem_map.1 hz; exact hn e he) (by simpa using hl) ⟨lt, rfl, hs.keep bW⟩)
  have q3 := hide (fun (w' : World) => l11Ref_any a w' hao)
  have q4 : Hid (GThs (lt.map (·.t)) → ∀ (w' : World), Below w.heap.size w w' → Calls Tryz.prog 23 #[.slice hd.a hd.len hd.cap, encA a] w' fun r w'' => (∃ v L rr, r = .returned v ∧ (∀ x, x ∈ L ↔ Up (parL (lt.map (·.t))) a x) ∧ SetR L rr ∧ w''.ownsRow w'.heap.size 31 4 v rr.length (atomsV rr)) ∧ Below w'.heap.size w' w'') := hide (fun g w' hb => l12Up_n hd lt a w' g hn hl (hs.keep hb) hao)
  have BW := hide bW
  have HW := hide hW.symm
  clear hn hl hs hao hW bW
  unfold encA at q4 ⊢
  go_enter Tryz.func7, Tryz.ntmps7
  go_wp2_with fail
  rw [unhide HW]
  by_cases hg : GThs (lt.map (·.t))
  case neg =>
    have no : Hid (¬ (GThs (lt.map (·.t)) ∧ refA a = true)) := hide (fun g => hg g.1)
    refine (callsF (unhide q1) hg).mono ?_
    rintro e w1 ⟨rfl, hb⟩
    have B1 := hide (bTr (unhide BW) hb)
    clear hb q1 q3 q4 hg
    go_wp2_with fail
    go_ret
    exact ⟨⟨.slice none 0 0, [], rfl, .inr ⟨unhide no, rfl⟩, ⟨rfl, .inl ⟨rfl, rfl⟩⟩⟩, unhide B1⟩
  refine (callsT (unhide q1) hg).mono ?_
  rintro e w1 ⟨rfl, hb⟩
  have B1 := hide (bTr (unhide BW) hb)
  have R1 := hide ((unhide RA).keep hb)
  have GG := hide hg
  have c0 := (unhide R1).at (o := 0) (v := .int .i64 a.x) rfl
  have c1 := (unhide R1).at (o := 1) (v := .int .i64 a.n) rfl
  have c2 := (unhide R1).at (o := 2) (v := .string a.t) rfl
  have c3 := (unhide R1).at (o := 3) (v := .string a.y) rfl
  clear hb q1 hg HW RA BW
  by_cases hr : refA a = true
  case neg =>
    have no : Hid (¬ (GThs (lt.map (·.t)) ∧ refA a = true)) := hide (fun g => hr g.2)
    have qr := hide (callsF (unhide q3 w1) hr)
    clear hr q3 q4
    go_wp2_with fail
    refine (unhide qr).mono ?_
    rintro e w2 ⟨rfl, hb⟩
    have B2 := hide (bTr (unhide B1) hb)
    clear hb qr c0 c1 c2 c3
    go_wp2_with fail
    go_ret
    exact ⟨⟨.slice none 0 0, [], rfl, .inr ⟨unhide no, rfl⟩, ⟨rfl, .inl ⟨rfl, rfl⟩⟩⟩, unhide B2⟩
  have HRA := hide hr
  have qr := hide (callsT (unhide q3 w1) hr)
  clear hr q3
  go_wp2_with fail
  refine (unhide qr).mono ?_
  rintro e w2 ⟨rfl, hb⟩
  have B2 := hide (bTr (unhide B1) hb)
  have R2 := hide ((unhide R1).keep hb)
  clear hb qr c0 c1 c2 c3
  have c0 := (unhide R2).at (o := 0) (v := .int .i64 a.x) rfl
  have c1 := (unhide R2).at (o := 1) (v := .int .i64 a.n) rfl
  have c2 := (unhide R2).at (o := 2) (v := .string a.t) rfl
  have c3 := (unhide R2).at (o := 3) (v := .string a.y) rfl
  go_wp2_with fail
  refine (unhide q4 (unhide GG) _ (unhide B2)).mono ?_
  rintro e w3 ⟨⟨v, L, rr, rfl, hL, hR, ho⟩, hb⟩
  have LL := hide hL
  have RR := hide hR
  have OO := hide ho
  have B3 := hide (bTr (unhide B2) hb)
  clear hL hR ho hb q4 c0 c1 c2 c3
  go_wp2_with fail
  go_ret
  exact ⟨⟨v, rr, rfl, .inl ⟨unhide GG, unhide HRA, fun x => ((unhide RR).mem x).trans (unhide LL x), (unhide RR).ris⟩, own_base (unhide OO) (unhide B2).size⟩, unhide B3⟩
end Go.Proofs.YtpfekkhnjaopdaaGreat.V
/- Heads and atoms as the laws take them: sized, copied, read. -/
namespace Go.Proofs.YtpfekkhnjaopdaaGreat.V
set_option linter.unusedSimpArgs false
set_option linter.unusedVariables false
open Go.ChangeShapes Go.WideShapes Go.RowKit

set_option maxHeartbeats 1000000 in
theorem szHead_any (h : HeadT) (l : Int) (w : World) (h0 : 0 ≤ l) (h1 : l ≤ 1048576) (ho : h.Ok) :
    Calls Tryz.prog 16 #[hAgg h, .int .i64 l] w fun e w' => (∃ m : Int, -1 ≤ m ∧ m ≤ l ∧ e = .returned (.int .i64 m)) ∧ Below w.heap.size w w' := by
  have q := hide (fun l w h0 h1 => szAtom_any h.x h.n l h.t h.y w h0 h1 ho.t9 ho.y9)
  have sy := ho.ty9
  unfold maxLen at sy
  clear ho
  have R0 := hide (RowIs.new w #[.int .i64 h.k, .int .i64 h.x, .int .i64 h.n, .string h.t, .string h.y, .string h.ty] 39)
  go_enter Tryz.func16, Tryz.ntmps16
  go_wp2_with fail
  refine (unhide q _ _ (by omega) (by omega)).mono ?_
  rintro e w1 ⟨⟨m, hm1, hm2, rfl⟩, hb1⟩
  have c5 := ((unhide R0).keep hb1).at (o := 5) (v := .string h.ty) rfl
  have B := hide (bTr (bAl (Below.refl _ _) _) hb1)
  clear hb1 R0 q
  by_cases hm : m < 0
  · go_wp2_with fail
    go_ret
    exact ⟨⟨_, by omega, by omega, rfl⟩, unhide B⟩
  by_cases hm2 : m < (h.ty.size : Int)
  · have d : decide (m - (h.ty.size : Int) < 0) = true := by simp; omega
    go_wp2_with fail
    go_ret
    exact ⟨⟨_, by omega, by omega, rfl⟩, unhide B⟩
  · have d : decide (m - (h.ty.size : Int) < 0) = false := by simp; omega
    go_wp2_with fail
    go_ret
    exact ⟨⟨_, by omega, by omega, rfl⟩, unhide B⟩

set_option maxHeartbeats 1000000 in
theorem toHead_any (h : HeadT) (w : World) :
    Calls Tryz.prog 18 #[hAgg h] w fun e w' => e = .returned (hAgg h) ∧ Below w.heap.size w w' := by
  go_enter Tryz.func18, Tryz.ntmps18
  go_wp2_with fail
  refine (toAtom_any _ _ _ _ _).mono ?_
  rintro e w1 ⟨rfl, hb1⟩
  have bw := hide (bTr (bAl (bAl (bAl (Below.refl _ _) _) _) _) hb1)
  have ro := ((RowIs.new (w.alloc _) _ _).keep (bAl (Below.refl _ _) _)).keep hb1
  have out := (RowIs.new ((w.alloc _).alloc _) _ _).keep hb1
  have arg := hide (((RowIs.new w _ _).keep (bAl (bAl (Below.refl _ _) _) _)).keep hb1)
  simp only [World.size_alloc] at ro out
  clear hb1
  have k0 : w1.cell? ⟨w.heap.size + 1 + 1, 0, none⟩ = some (.int .i64 h.k) := out.at rfl
  have k1 : w1.cell? ⟨w.heap.size + 1 + 1, 1, none⟩ = some (.int .i64 0) := out.at rfl
  have k2 : w1.cell? ⟨w.heap.size + 1 + 1, 2, none⟩ = some (.int .i64 0) := out.at rfl
  have k3 : w1.cell? ⟨w.heap.size + 1 + 1, 3, none⟩ = some (.string ⟨#[]⟩) := out.at rfl
  have k4 : w1.cell? ⟨w.heap.size + 1 + 1, 4, none⟩ = some (.string ⟨#[]⟩) := out.at rfl
  have k5 : w1.cell? ⟨w.heap.size + 1 + 1, 5, none⟩ = some (.string ⟨#[]⟩) := out.at rfl
  have g1 := out.froz 1
  have g2 := out.froz 2
  have g3 := out.froz 3
  have g4 := out.froz 4
  have g5 := out.froz 5
  have j0 : w1.cell? ⟨w.heap.size + 1, 0, none⟩ = some (.int .i64 0) := ro.at rfl
  have f0 := ro.froz 0
  have j1 : w1.cell? ⟨w.heap.size + 1, 1, none⟩ = some (.int .i64 0) := ro.at rfl
  have f1 := ro.froz 1
  have j2 : w1.cell? ⟨w.heap.size + 1, 2, none⟩ = some (.int .i64 0) := ro.at rfl
  have f2 := ro.froz 2
  have j3 : w1.cell? ⟨w.heap.size + 1, 3, none⟩ = some (.string ⟨#[]⟩) := ro.at rfl
  have f3 := ro.froz 3
  have j4 : w1.cell? ⟨w.heap.size + 1, 4, none⟩ = some (.string ⟨#[]⟩) := ro.at rfl
  have f4 := ro.froz 4
  have j5 : w1.cell? ⟨w.heap.size + 1, 5, none⟩ = some (.string ⟨#[]⟩) := ro.at rfl
  have f5 := ro.froz 5
  have a5 : w1.cell? ⟨w.heap.size, 5, none⟩ = some (.string h.ty) := (unhide arg).at rfl
  clear out ro arg
  go_wp2_with fail
  refine bodyPost_ret (v := hAgg h) (by simp [results, Tryz.results18, go_sem, j0, j1, j2, j3, j4, j5]) rfl ⟨rfl, ?_⟩
  (repeat (refine Below.setCell ?_ (by simp; try omega) _))
  exact unhide bw

theorem listY6 {α : Type} {l : List α} (h : l.length = 6) : ∃ c0 c1 c2 c3 c4 c5, l = [c0, c1, c2, c3, c4, c5] := by
  match l, h with
  | [c0, c1, c2, c3, c4, c5], _ => exact ⟨c0, c1, c2, c3, c4, c5, rfl⟩
theorem listY3 {α : Type} {l : List α} (h : l.length = 3) : ∃ c0 c1 c2, l = [c0, c1, c2] := by
  match l, h with
  | [c0, c1, c2], _ => exact ⟨c0, c1, c2, rfl⟩
section
variable {H : Type} {enc : TypeId × Value → H} {w : World} {base : Nat} {sp : Nat → Bool} {held : Bool}
set_option maxRecDepth 100000 in
theorem read_head {n : Nat} {cs : List Value} {x : DataW H × List MemPlace} (h : DataW.trod enc Tryz.prog w base sp held n 39 cs = some x) : ∃ A : HeadT, cs = [.int .i64 A.k, .int .i64 A.x, .int .i64 A.n, .string A.t, .string A.y, .string A.ty] ∧ A.Ok := by
  obtain ⟨xs, m, rfl, _, hlen, hx, hf⟩ := DataW.trod_struct Tryz.underlying39 h
  have hc : Tryz.prog.cellsOf 39 = 6 := by kernel_rfl
  have k9 : Tryz.prog.cellsOf 9 = 1 := by kernel_rfl
  have k3 : Tryz.prog.cellsOf 3 = 1 := by kernel_rfl
  have kA : Tryz.prog.cellsOf 24 = 4 := by kernel_rfl
  obtain ⟨c0, c1, c2, c3, c4, c5, rfl⟩ := listY6 (hlen.trans hc)
  obtain ⟨x0, x1, x2, rfl⟩ := listY3 hx
  have h0 : DataW.trod enc Tryz.prog w base sp held m 3 [c0] = some x0 := by have := hf 0 _ rfl; simpa [k9, k3, kA] using this
  have h1 : DataW.trod enc Tryz.prog w base sp held m 24 [c1, c2, c3, c4] = some x1 := by have := hf 1 _ rfl; simpa [k9, k3, kA] using this
  have h2 : DataW.trod enc Tryz.prog w base sp held m 9 [c5] = some x2 := by have := hf 2 _ rfl; simpa [k9, k3, kA] using this
  obtain ⟨y0, e0, _, ok0⟩ := DataW.trod_int Tryz.underlying3 h0
  obtain ⟨B, e1, okB⟩ := read_atom h1
  obtain ⟨y2, e2, _, ok2⟩ := DataW.trod_string Tryz.underlying9 h2
  simp at e0 e1 e2
  subst e0 e2
  obtain ⟨rfl, rfl, rfl, rfl⟩ := e1
  exact ⟨⟨y0, B.x, B.n, B.t, B.y, y2⟩, rfl, ⟨okB.n8, okB.n9, okB.t9, okB.y9, ok2⟩⟩
set_option maxRecDepth 100000 in
theorem readv_head {r : Reach} {b0 : Nat} {v0 : Value} {d : DataW H} {p : List MemPlace} (hv : Value.okWide Tryz.prog w r b0 39 v0) (h : DataW.Trod enc Tryz.prog w base sp held 39 v0 d p) :
    ∃ A : HeadT, v0 = hAgg A ∧ A.Ok := by
  obtain ⟨cs, rfl, hsz⟩ := okWide_struct Tryz.underlying39 hv
  obtain ⟨fuel, hf0⟩ := h
  obtain ⟨l⟩ := cs
  obtain ⟨A, e, ok⟩ := read_head hf0
  simp [Value.cells] at e
  subst e
  exact ⟨A, rfl, ok⟩
set_option maxRecDepth 100000 in
theorem readv_atom {r : Reach} {b0 : Nat} {v0 : Value} {d : DataW H} {p : List MemPlace} (hv : Value.okWide Tryz.prog w r b0 24 v0) (h : DataW.Trod enc Tryz.prog w base sp held 24 v0 d p) :
    ∃ A : AtomT, v0 = encA A ∧ A.Ok := by
  obtain ⟨cs, rfl, hsz⟩ := okWide_struct Tryz.underlying24 hv
  obtain ⟨fuel, hf0⟩ := h
  obtain ⟨l⟩ := cs
  obtain ⟨A, e, ok⟩ := read_atom hf0
  simp [Value.cells] at e
  subst e
  exact ⟨A, rfl, ok⟩
end
end Go.Proofs.YtpfekkhnjaopdaaGreat.V
