/- Changes: laws.toStamp, toDirChange, szDirChange, eqStamp, eqDirChange. -/
import Derived.Test.YtpdnimchmgbijaaQTil
namespace Go.Proofs.Ytpdnimchmgbijaa
open Go.RowKit

/-- A change: Stamp's Time and Who, Kind, Uid, Up, Part's Attr and Text, Attr, Text. -/
structure DcT where
  t : Int
  o : Int
  k : Int
  u : Int
  p : Int
  pa : ByteArray
  pt : ByteArray
  a : ByteArray
  x : ByteArray
structure DcT.Ok (c : DcT) : Prop where
  pa9 : c.pa.size ≤ maxLen
  pt9 : c.pt.size ≤ maxLen
  a9 : c.a.size ≤ maxLen
  x9 : c.x.size ≤ maxLen

theorem bSet {w w' : World} (h : Below w.heap.size w w') (b o : Nat) (hb : w.heap.size ≤ b) (v : Value) : Below w.heap.size w (w'.setCell ⟨b, o, none⟩ v) := h.setCell hb v
theorem toStamp_any (t o : Int) (w : World) :
    Calls Try.prog 27 #[.agg #[.int .i64 t, .int .i64 o]] w fun e w' => e = .returned (.agg #[.int .i64 t, .int .i64 o]) ∧ Below w.heap.size w w' := by
  go_enter Try.func27, Try.ntmps27
  go_wp2
  exact bodyPost_ret (v := .agg #[.int .i64 t, .int .i64 o]) (by simp [results, Try.results27, go_sem]) rfl ⟨rfl, bAl (bAl (bAl (Below.refl _ _) _) _) _⟩

set_option maxHeartbeats 800000 in
theorem toDirChange_any (t o k u p : Int) (pa pt a x : ByteArray) (w : World) :
    Calls Try.prog 16 #[.agg #[.int .i64 t, .int .i64 o, .int .i64 k, .int .i64 u, .int .i64 p, .string pa, .string pt, .string a, .string x]] w
      fun e w' => e = .returned (.agg #[.int .i64 t, .int .i64 o, .int .i64 k, .int .i64 u, .int .i64 p, .string pa, .string pt, .string a, .string x]) ∧ Below w.heap.size w w' := by
  obtain ⟨W1, hW1⟩ : ∃ W, W = w.alloc (.cells #[.int .i64 t, .int .i64 o, .int .i64 k, .int .i64 u, .int .i64 p, .string pa, .string pt, .string a, .string x] 37) := ⟨_, rfl⟩
  obtain ⟨W2, hW2⟩ : ∃ W, W = W1.alloc (.cells #[.int .i64 0, .int .i64 0, .int .i64 0, .int .i64 0, .int .i64 0, .string ⟨#[]⟩, .string ⟨#[]⟩, .string ⟨#[]⟩, .string ⟨#[]⟩] 46) := ⟨_, rfl⟩
  obtain ⟨W3, hW3⟩ : ∃ W, W = W2.alloc (.cells #[.int .i64 0, .int .i64 0, .int .i64 0, .int .i64 0, .int .i64 0, .string ⟨#[]⟩, .string ⟨#[]⟩, .string ⟨#[]⟩, .string ⟨#[]⟩] 46) := ⟨_, rfl⟩
  have z1 : W1.heap.size = w.heap.size + 1 := by rw [hW1]; simp
  have z2 : W2.heap.size = w.heap.size + 1 + 1 := by rw [hW2]; simp; exact z1
  have z3 : W3.heap.size = w.heap.size + 1 + 1 + 1 := by rw [hW3]; simp; exact z2
  have b1 : Below w.heap.size w W1 := by rw [hW1]; exact bAl (Below.refl _ _) _
  have b2 : Below W1.heap.size W1 W2 := by rw [hW2]; exact bAl (Below.refl _ _) _
  have b3 : Below W2.heap.size W2 W3 := by rw [hW3]; exact bAl (Below.refl _ _) _
  have B := hide (bTr (bTr b1 b2) b3)
  have src := hide ((show RowIs W1 w.heap.size #[.int .i64 t, .int .i64 o, .int .i64 k, .int .i64 u, .int .i64 p, .string pa, .string pt, .string a, .string x] 37 by rw [hW1]; exact RowIs.new _ _ _).keep (bTr b2 b3))
  have res := hide ((show RowIs W2 (w.heap.size + 1) #[.int .i64 0, .int .i64 0, .int .i64 0, .int .i64 0, .int .i64 0, .string ⟨#[]⟩, .string ⟨#[]⟩, .string ⟨#[]⟩, .string ⟨#[]⟩] 46 by rw [hW2, ← z1]; exact RowIs.new _ _ _).keep b3)
  have out := hide (show RowIs W3 (w.heap.size + 1 + 1) #[.int .i64 0, .int .i64 0, .int .i64 0, .int .i64 0, .int .i64 0, .string ⟨#[]⟩, .string ⟨#[]⟩, .string ⟨#[]⟩, .string ⟨#[]⟩] 46 by rw [hW3, ← z2]; exact RowIs.new _ _ _)
  have HW := hide (show ((w.alloc (.cells #[.int .i64 t, .int .i64 o, .int .i64 k, .int .i64 u, .int .i64 p, .string pa, .string pt, .string a, .string x] 37)).alloc (.cells #[.int .i64 0, .int .i64 0, .int .i64 0, .int .i64 0, .int .i64 0, .string ⟨#[]⟩, .string ⟨#[]⟩, .string ⟨#[]⟩, .string ⟨#[]⟩] 46)).alloc (.cells #[.int .i64 0, .int .i64 0, .int .i64 0, .int .i64 0, .int .i64 0, .string ⟨#[]⟩, .string ⟨#[]⟩, .string ⟨#[]⟩, .string ⟨#[]⟩] 46) = W3 by rw [hW3, hW2, hW1])
  clear hW1 hW2 hW3 z1 z2 z3 b1 b2 b3
  go_enter Try.func16, Try.ntmps16
  go_wp2_with fail
  rw [unhide HW]
  clear HW
  refine (toStamp_any t o _).mono ?_
  rintro e w4 ⟨rfl, hb⟩
  have s4 := (unhide src).keep hb
  have o4 := (unhide out).keep hb
  have r4 := (unhide res).keep hb
  have B4 := bTr (unhide B) hb
  clear hb src out res B W1 W2 W3
  have c2 := s4.at (o := 2) (v := .int .i64 k) rfl
  have c3 := s4.at (o := 3) (v := .int .i64 u) rfl
  have c4 := s4.at (o := 4) (v := .int .i64 p) rfl
  have c5 := s4.at (o := 5) (v := .string pa) rfl
  have c6 := s4.at (o := 6) (v := .string pt) rfl
  have f0 := o4.froz 0
  have f1 := o4.froz 1
  have f2 := o4.froz 2
  have f3 := o4.froz 3
  have f4 := o4.froz 4
  have d0 := o4.at (o := 0) (v := .int .i64 0) rfl
  have d1 := o4.at (o := 1) (v := .int .i64 0) rfl
  have d2 := o4.at (o := 2) (v := .int .i64 0) rfl
  have d3 := o4.at (o := 3) (v := .int .i64 0) rfl
  have d4 := o4.at (o := 4) (v := .int .i64 0) rfl
  have S4 := hide s4
  have O4 := hide o4
  have R4 := hide r4
  have BB := hide B4
  clear s4 o4 r4 B4
  go_wp2_with fail
  have S5 := hide ((((((unhide S4).setOther (b' := w.heap.size + 1 + 1) (o' := 0) (.int .i64 t) (by omega)).setOther (b' := w.heap.size + 1 + 1) (o' := 1) (.int .i64 o) (by omega)).setOther (b' := w.heap.size + 1 + 1) (o' := 2) (.int .i64 k) (by omega)).setOther (b' := w.heap.size + 1 + 1) (o' := 3) (.int .i64 u) (by omega)).setOther (b' := w.heap.size + 1 + 1) (o' := 4) (.int .i64 p) (by omega))
  have R5 := hide ((((((unhide R4).setOther (b' := w.heap.size + 1 + 1) (o' := 0) (.int .i64 t) (by omega)).setOther (b' := w.heap.size + 1 + 1) (o' := 1) (.int .i64 o) (by omega)).setOther (b' := w.heap.size + 1 + 1) (o' := 2) (.int .i64 k) (by omega)).setOther (b' := w.heap.size + 1 + 1) (o' := 3) (.int .i64 u) (by omega)).setOther (b' := w.heap.size + 1 + 1) (o' := 4) (.int .i64 p) (by omega))
  have O5 := hide ((((((unhide O4).set 0 (.int .i64 t)).set 1 (.int .i64 o)).set 2 (.int .i64 k)).set 3 (.int .i64 u)).set 4 (.int .i64 p))
  have B5 := hide (bSet (bSet (bSet (bSet (bSet (unhide BB) (w.heap.size + 1 + 1) 0 (by omega) (.int .i64 t)) (w.heap.size + 1 + 1) 1 (by omega) (.int .i64 o)) (w.heap.size + 1 + 1) 2 (by omega) (.int .i64 k)) (w.heap.size + 1 + 1) 3 (by omega) (.int .i64 u)) (w.heap.size + 1 + 1) 4 (by omega) (.int .i64 p))
  clear S4 R4 O4 BB c2 c3 c4 c5 c6 f0 f1 f2 f3 f4 d0 d1 d2 d3 d4
  refine (toPart_any pa pt _).mono ?_
  rintro e w6 ⟨rfl, hb⟩
  have s6 := (unhide S5).keep hb
  have o6 := show RowIs w6 (w.heap.size + 1 + 1) #[.int .i64 t, .int .i64 o, .int .i64 k, .int .i64 u, .int .i64 p, .string ⟨#[]⟩, .string ⟨#[]⟩, .string ⟨#[]⟩, .string ⟨#[]⟩] 46 from (unhide O5).keep hb
  have r6 := (unhide R5).keep hb
  have B6 := hide (bTr (unhide B5) hb)
  clear hb S5 O5 R5 B5
  have c7 := s6.at (o := 7) (v := .string a) rfl
  have c8 := s6.at (o := 8) (v := .string x) rfl
  have f5 := o6.froz 5
  have f6 := o6.froz 6
  have f7 := o6.froz 7
  have f8 := o6.froz 8
  have d0 := o6.at (o := 0) (v := .int .i64 t) rfl
  have d1 := o6.at (o := 1) (v := .int .i64 o) rfl
  have d2 := o6.at (o := 2) (v := .int .i64 k) rfl
  have d3 := o6.at (o := 3) (v := .int .i64 u) rfl
  have d4 := o6.at (o := 4) (v := .int .i64 p) rfl
  have d5 := o6.at (o := 5) (v := .string ⟨#[]⟩) rfl
  have d6 := o6.at (o := 6) (v := .string ⟨#[]⟩) rfl
  have d7 := o6.at (o := 7) (v := .string ⟨#[]⟩) rfl
  have d8 := o6.at (o := 8) (v := .string ⟨#[]⟩) rfl
  have g0 := r6.froz 0
  have g1 := r6.froz 1
  have g2 := r6.froz 2
  have g3 := r6.froz 3
  have g4 := r6.froz 4
  have g5 := r6.froz 5
  have g6 := r6.froz 6
  have g7 := r6.froz 7
  have g8 := r6.froz 8
  have j0 := r6.at (o := 0) (v := .int .i64 0) rfl
  have j1 := r6.at (o := 1) (v := .int .i64 0) rfl
  have j2 := r6.at (o := 2) (v := .int .i64 0) rfl
  have j3 := r6.at (o := 3) (v := .int .i64 0) rfl
  have j4 := r6.at (o := 4) (v := .int .i64 0) rfl
  have j5 := r6.at (o := 5) (v := .string ⟨#[]⟩) rfl
  have j6 := r6.at (o := 6) (v := .string ⟨#[]⟩) rfl
  have j7 := r6.at (o := 7) (v := .string ⟨#[]⟩) rfl
  have j8 := r6.at (o := 8) (v := .string ⟨#[]⟩) rfl
  clear s6 o6 r6
  go_wp2_with fail
  refine bodyPost_ret (v := .agg #[.int .i64 t, .int .i64 o, .int .i64 k, .int .i64 u, .int .i64 p, .string pa, .string pt, .string a, .string x]) (by simp [results, Try.results16, go_sem, j0, j1, j2, j3, j4, j5, j6, j7, j8]) rfl ⟨rfl, ?_⟩
  repeat refine bSet ?_ _ _ (by omega) _
  exact unhide B6
end Go.Proofs.Ytpdnimchmgbijaa
