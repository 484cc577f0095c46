/- What the law of CheckAnswer wants of keys and answers. -/
import Derived.Test.YtpagfcdoedlnoaaDoorKAe
import Derived.Test.YtpagfcdoedlnoaaDoorDIn
import Derived.Test.YtpagfcdoedlnoaaDoorDLawKit
namespace Go.Proofs.YtpagfcdoedlnoaaDoor.D
set_option maxRecDepth 20000
open Go.ChangeShapes Go.WideShapes Go.RowKit Go.Joins

def SzS (q : Int) (k : Nat) (e : Ending) : Prop := ∃ m : Int, -1 ≤ m ∧ m ≤ q ∧ (0 ≤ m → (k : Int) ≤ q) ∧ e = .returned (.int .i64 m)
theorem szHardKey_any (P kc : Int) (ko : ByteArray) (q : Int) (w : World) (h0 : 0 ≤ q) (h1 : q ≤ 1048576) (hk : ko.size ≤ maxLen) :
    Calls Tryd.prog 10 #[.agg #[.int .i64 P, .string ko, .int .i64 kc], .int .i64 q] w fun e w' => SzS q ko.size e ∧ Below w.heap.size w w' := by
  unfold maxLen at hk
  by_cases hz : q - (ko.size : Int) < 0
  · go_enter Tryd.func10, Tryd.ntmps10
    go_wp2_with fail
    go_ret
    exact ⟨⟨-1, by omega, by omega, by omega, rfl⟩, bAl (Below.refl _ _) _⟩
  · go_enter Tryd.func10, Tryd.ntmps10
    go_wp2_with fail
    go_ret
    exact ⟨⟨q - ko.size, by omega, by omega, fun _ => by omega, rfl⟩, bAl (Below.refl _ _) _⟩
theorem szAnswer_any (o : ByteArray) (n r z : Int) (q : Int) (w : World) (h0 : 0 ≤ q) (h1 : q ≤ 1048576) (hk : o.size ≤ maxLen) :
    Calls Tryd.prog 11 #[.agg #[.string o, .int .i64 n, .int .i64 r, .int .i64 z], .int .i64 q] w fun e w' => SzS q o.size e ∧ Below w.heap.size w w' := by
  unfold maxLen at hk
  by_cases hz : q - (o.size : Int) < 0
  · go_enter Tryd.func11, Tryd.ntmps11
    go_wp2_with fail
    go_ret
    exact ⟨⟨-1, by omega, by omega, by omega, rfl⟩, bAl (Below.refl _ _) _⟩
  · go_enter Tryd.func11, Tryd.ntmps11
    go_wp2_with fail
    go_ret
    exact ⟨⟨q - o.size, by omega, by omega, fun _ => by omega, rfl⟩, bAl (Below.refl _ _) _⟩
theorem toHardKey_any (P kc : Int) (ko : ByteArray) (w : World) :
    Calls Tryd.prog 13 #[.agg #[.int .i64 P, .string ko, .int .i64 kc]] w fun e w' => e = .returned (.agg #[.int .i64 P, .string ko, .int .i64 kc]) ∧ Below w.heap.size w w' := by
  go_enter Tryd.func13, Tryd.ntmps13
  go_wp2_with fail
  exact bodyPost_ret (v := .agg #[.int .i64 P, .string ko, .int .i64 kc]) (by simp [results, Tryd.results13, go_sem]) rfl ⟨rfl, bAl (bAl (bAl (Below.refl _ _) _) _) _⟩
theorem eqHardKey_same (P kc : Int) (ko : ByteArray) (w : World) :
    Calls Tryd.prog 16 #[.agg #[.int .i64 P, .string ko, .int .i64 kc], .agg #[.int .i64 P, .string ko, .int .i64 kc]] w fun e w' => e = .returned (.bool true) ∧ Below w.heap.size w w' := by
  go_enter Tryd.func16, Tryd.ntmps16
  go_wp2
  go_ret
  exact ⟨rfl, bAl (bAl (Below.refl _ _) _) _⟩
set_option maxHeartbeats 1000000 in
theorem toAnswer_any (o : ByteArray) (n r z : Int) (w : World) :
    Calls Tryd.prog 14 #[.agg #[.string o, .int .i64 n, .int .i64 r, .int .i64 z]] w fun e w' => e = .returned (.agg #[.string o, .int .i64 n, .int .i64 r, .int .i64 z]) ∧ Below w.heap.size w w' := by
  have q := hide (fun w => toSig_any r z w)
  obtain ⟨W, hW⟩ : ∃ W, W = ((w.alloc (.cells #[.string o, .int .i64 n, .int .i64 r, .int .i64 z] 36)).alloc (.cells #[.string ⟨#[]⟩, .int .i64 0, .int .i64 0, .int .i64 0] 26)).alloc (.cells #[.string o, .int .i64 n, .int .i64 0, .int .i64 0] 26) := ⟨_, rfl⟩
  have B0 : Below w.heap.size w W := by rw [hW]; exact bAl (bAl (bAl (Below.refl _ _) _) _) _
  have Rr : RowIs W (w.heap.size + 1) #[.string ⟨#[]⟩, .int .i64 0, .int .i64 0, .int .i64 0] 26 := by
    rw [hW]
    have := (RowIs.new (w.alloc (.cells #[.string o, .int .i64 n, .int .i64 r, .int .i64 z] 36)) #[.string ⟨#[]⟩, .int .i64 0, .int .i64 0, .int .i64 0] 26).keep (bAl (Below.refl _ _) (.cells #[.string o, .int .i64 n, .int .i64 0, .int .i64 0] 26))
    simpa using this
  have Ro : RowIs W (w.heap.size + 1 + 1) #[.string o, .int .i64 n, .int .i64 0, .int .i64 0] 26 := by
    rw [hW]
    have := RowIs.new ((w.alloc (.cells #[.string o, .int .i64 n, .int .i64 r, .int .i64 z] 36)).alloc (.cells #[.string ⟨#[]⟩, .int .i64 0, .int .i64 0, .int .i64 0] 26)) #[.string o, .int .i64 n, .int .i64 0, .int .i64 0] 26
    simpa using this
  have HB := hide B0
  have HW := hide hW.symm
  have HRr := hide Rr
  have HRo := hide Ro
  clear hW B0 Rr Ro
  go_enter Tryd.func14, Tryd.ntmps14
  go_wp2_with fail
  rw [unhide HW]
  refine (unhide q _).mono ?_
  rintro e w2 ⟨rfl, hb2⟩
  have r2 := (unhide HRr).keep hb2
  have o2 := (unhide HRo).keep hb2
  have o0 := o2.at (o := 0) (v := .string o) rfl
  have o1 := o2.at (o := 1) (v := .int .i64 n) rfl
  have o3 := o2.at (o := 2) (v := .int .i64 0) rfl
  have o4 := o2.at (o := 3) (v := .int .i64 0) rfl
  have of2 := o2.froz 2
  have of3 := o2.froz 3
  have oz := o2.lt
  have r0 := r2.at (o := 0) (v := .string ⟨#[]⟩) rfl
  have r1 := r2.at (o := 1) (v := .int .i64 0) rfl
  have r3 := r2.at (o := 2) (v := .int .i64 0) rfl
  have r4 := r2.at (o := 3) (v := .int .i64 0) rfl
  have f0 := r2.froz 0
  have f1 := r2.froz 1
  have f2 := r2.froz 2
  have f3 := r2.froz 3
  have rz := r2.lt
  have B2 := hide (bTr (unhide HB) hb2)
  clear r2 o2 hb2 HRr HRo HB HW q
  go_wp2_with fail
  exact bodyPost_ret (v := .agg #[.string o, .int .i64 n, .int .i64 r, .int .i64 z]) (by simp [results, Tryd.results14, go_sem, r0, r1, r3, r4]) rfl ⟨rfl, ((((((unhide B2).setCell (by first | omega | (simp; omega) | simp) _).setCell (by first | omega | (simp; omega) | simp) _).setCell (by first | omega | (simp; omega) | simp) _).setCell (by first | omega | (simp; omega) | simp) _).setCell (by first | omega | (simp; omega) | simp) _).setCell (by first | omega | (simp; omega) | simp) _⟩
section
variable {H : Type} {enc : TypeId × Value → H} {w : World} {base : Nat} {sp : Nat → Bool} {held : Bool}
set_option maxRecDepth 100000 in
theorem readv_HardKey {r : Reach} {b0 : Nat} {v0 : Value} {d : DataW H} {p : List MemPlace} (hv : Value.okWide Tryd.prog w r b0 33 v0) (h : DataW.Trod enc Tryd.prog w base sp held 33 v0 d p) :
    ∃ (P : Int) (ko : ByteArray) (kc : Int), v0 = .agg #[.int .i64 P, .string ko, .int .i64 kc] ∧ ko.size ≤ maxLen := by
  obtain ⟨c0, c1, c2, y0, y1, y2, m, rfl, _, _, g0, g1, g2⟩ := open_agg3 Tryd.underlying33 (by kernel_rfl) (by kernel_rfl) hv h
  obtain ⟨a, q0, _, wa⟩ := DataW.trod_int Tryd.underlying3 g0
  obtain ⟨b, q1, _, wb⟩ := DataW.trod_string Tryd.underlying9 g1
  obtain ⟨c, q2, _, wc⟩ := DataW.trod_int Tryd.underlying3 g2
  simp at q0 q1 q2
  subst q0 q1 q2
  exact ⟨a, b, c, rfl, wb⟩
theorem list4 {α : Type} {l : List α} (h : l.length = 4) : ∃ a b c d, l = [a, b, c, d] := by
  match l, h with
  | [a, b, c, d], _ => exact ⟨a, b, c, d, rfl⟩
theorem list3 {α : Type} {l : List α} (h : l.length = 3) : ∃ a b c, l = [a, b, c] := by
  match l, h with
  | [a, b, c], _ => exact ⟨a, b, c, rfl⟩
theorem list2 {α : Type} {l : List α} (h : l.length = 2) : ∃ a b, l = [a, b] := by
  match l, h with
  | [a, b], _ => exact ⟨a, b, rfl⟩
set_option maxRecDepth 100000 in
theorem read_Sig {n : Nat} {cs : List Value} {x : DataW H × List MemPlace} (h : DataW.trod enc Tryd.prog w base sp held n 34 cs = some x) : ∃ r z : Int, cs = [.int .i64 r, .int .i64 z] := by
  obtain ⟨xs, m, rfl, _, hlen, hx, hf⟩ := DataW.trod_struct Tryd.underlying34 h
  have hc : Tryd.prog.cellsOf 34 = 2 := by kernel_rfl
  have k3 : Tryd.prog.cellsOf 3 = 1 := by kernel_rfl
  obtain ⟨c0, c1, rfl⟩ := list2 (hlen.trans hc)
  obtain ⟨x0, x1, rfl⟩ := list2 hx
  have h0 : DataW.trod enc Tryd.prog w base sp held m 3 [c0] = some x0 := by have := hf 0 _ rfl; simpa [k3] using this
  have h1 : DataW.trod enc Tryd.prog w base sp held m 3 [c1] = some x1 := by have := hf 1 _ rfl; simpa [k3] using this
  obtain ⟨y0, e0, _, _⟩ := DataW.trod_int Tryd.underlying3 h0
  obtain ⟨y1, e1, _, _⟩ := DataW.trod_int Tryd.underlying3 h1
  simp at e0 e1
  subst e0 e1
  exact ⟨y0, y1, rfl⟩
set_option maxRecDepth 100000 in
theorem read_Ans {n : Nat} {cs : List Value} {x : DataW H × List MemPlace} (h : DataW.trod enc Tryd.prog w base sp held n 36 cs = some x) : ∃ (o : ByteArray) (n r z : Int), cs = [.string o, .int .i64 n, .int .i64 r, .int .i64 z] ∧ o.size ≤ maxLen := by
  obtain ⟨xs, m, rfl, _, hlen, hx, hf⟩ := DataW.trod_struct Tryd.underlying36 h
  have hc : Tryd.prog.cellsOf 36 = 4 := by kernel_rfl
  have k3 : Tryd.prog.cellsOf 3 = 1 := by kernel_rfl
  have k9 : Tryd.prog.cellsOf 9 = 1 := by kernel_rfl
  have ks : Tryd.prog.cellsOf 34 = 2 := by kernel_rfl
  obtain ⟨c0, c1, c2, c3, rfl⟩ := list4 (hlen.trans hc)
  obtain ⟨x0, x1, x2, rfl⟩ := list3 hx
  have h0 : DataW.trod enc Tryd.prog w base sp held m 9 [c0] = some x0 := by have := hf 0 _ rfl; simpa [k9] using this
  have h1 : DataW.trod enc Tryd.prog w base sp held m 3 [c1] = some x1 := by have := hf 1 _ rfl; simpa [k3] using this
  have h2 : DataW.trod enc Tryd.prog w base sp held m 34 [c2, c3] = some x2 := by have := hf 2 _ rfl; simpa [ks] using this
  obtain ⟨y0, e0, _, ok⟩ := DataW.trod_string Tryd.underlying9 h0
  obtain ⟨y1, e1, _, _⟩ := DataW.trod_int Tryd.underlying3 h1
  obtain ⟨r, z, e2⟩ := read_Sig h2
  simp at e0 e1 e2
  obtain ⟨rfl, rfl⟩ := e2
  subst e0 e1
  exact ⟨y0, y1, r, z, rfl, ok⟩
set_option maxRecDepth 100000 in
theorem readv_Answer {r : Reach} {b0 : Nat} {v0 : Value} {d : DataW H} {p : List MemPlace} (hv : Value.okWide Tryd.prog w r b0 36 v0) (h : DataW.Trod enc Tryd.prog w base sp held 36 v0 d p) :
    ∃ (o : ByteArray) (n r z : Int), v0 = .agg #[.string o, .int .i64 n, .int .i64 r, .int .i64 z] ∧ o.size ≤ maxLen := by
  obtain ⟨cs, rfl, hsz⟩ := okWide_struct Tryd.underlying36 hv
  obtain ⟨fuel, hf⟩ := h
  obtain ⟨l⟩ := cs
  obtain ⟨o, n, r, z, e, ok⟩ := read_Ans hf
  simp [Value.cells] at e
  subst e
  exact ⟨o, n, r, z, rfl, ok⟩
end
end Go.Proofs.YtpagfcdoedlnoaaDoor.D
