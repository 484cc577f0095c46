/- A tuple: its fields and cells; impl.isSubId, isNameOrNone, hasTupleText, spec.l7Form. -/
import Derived.Test.YticidjceljjfnaaGreatDoorTVal
import Derived.Test.YticidjceljjfnaaGreatDoorTId
namespace Go.Proofs.YticidjceljjfnaaGreatDoor.V
open Go.RowKit
set_option maxRecDepth 20000

structure TupT where
  ty : ByteArray
  id : ByteArray
  rel : ByteArray
  sty : ByteArray
  sid : ByteArray
  srel : ByteArray
  cav : ByteArray
  g : ValT
structure TupT.Ok (t : TupT) : Prop where
  h_ty : t.ty.size ≤ maxLen
  h_id : t.id.size ≤ maxLen
  h_rel : t.rel.size ≤ maxLen
  h_sty : t.sty.size ≤ maxLen
  h_sid : t.sid.size ≤ maxLen
  h_srel : t.srel.size ≤ maxLen
  h_cav : t.cav.size ≤ maxLen
  g : t.g.Ok
abbrev tAg (t : TupT) (a1 : Option Addr) (l1 c1 : Nat) (a2 : Option Addr) (l2 c2 : Nat) : Value := .agg #[.string t.ty, .string t.id, .string t.rel, .string t.sty, .string t.sid, .string t.srel, .string t.cav, .int .i64 t.g.k, .int .i64 t.g.a.x, .int .i64 t.g.a.n, .string t.g.a.t, .string t.g.a.y, .slice a1 l1 c1, .slice a2 l2 c2]
structure TupAt (w : World) (b : Nat) (t : TupT) (x1 x2 : Value) : Prop where
  d0 : w.cell? ⟨b, 0, none⟩ = some (.string t.ty)
  d1 : w.cell? ⟨b, 1, none⟩ = some (.string t.id)
  d2 : w.cell? ⟨b, 2, none⟩ = some (.string t.rel)
  d3 : w.cell? ⟨b, 3, none⟩ = some (.string t.sty)
  d4 : w.cell? ⟨b, 4, none⟩ = some (.string t.sid)
  d5 : w.cell? ⟨b, 5, none⟩ = some (.string t.srel)
  d6 : w.cell? ⟨b, 6, none⟩ = some (.string t.cav)
  d7 : w.cell? ⟨b, 7, none⟩ = some (.int .i64 t.g.k)
  d8 : w.cell? ⟨b, 8, none⟩ = some (.int .i64 t.g.a.x)
  d9 : w.cell? ⟨b, 9, none⟩ = some (.int .i64 t.g.a.n)
  d10 : w.cell? ⟨b, 10, none⟩ = some (.string t.g.a.t)
  d11 : w.cell? ⟨b, 11, none⟩ = some (.string t.g.a.y)
  d12 : w.cell? ⟨b, 12, none⟩ = some (x1)
  d13 : w.cell? ⟨b, 13, none⟩ = some (x2)
  lt : b < w.heap.size
theorem TupAt.keep {w w' : World} {b : Nat} {t : TupT} {x1 x2 : Value} (h : TupAt w b t x1 x2) (hb : Below w.heap.size w w') : TupAt w' b t x1 x2 :=
  ⟨(hb.cell h.lt).trans h.d0, (hb.cell h.lt).trans h.d1, (hb.cell h.lt).trans h.d2, (hb.cell h.lt).trans h.d3, (hb.cell h.lt).trans h.d4, (hb.cell h.lt).trans h.d5, (hb.cell h.lt).trans h.d6, (hb.cell h.lt).trans h.d7, (hb.cell h.lt).trans h.d8, (hb.cell h.lt).trans h.d9, (hb.cell h.lt).trans h.d10, (hb.cell h.lt).trans h.d11, (hb.cell h.lt).trans h.d12, (hb.cell h.lt).trans h.d13, Nat.lt_of_lt_of_le h.lt hb.size⟩
theorem TupAt.new (w : World) (t : TupT) (x1 x2 : Value) (T : TypeId) : TupAt (w.alloc (.cells #[.string t.ty, .string t.id, .string t.rel, .string t.sty, .string t.sid, .string t.srel, .string t.cav, .int .i64 t.g.k, .int .i64 t.g.a.x, .int .i64 t.g.a.n, .string t.g.a.t, .string t.g.a.y, x1, x2] T)) w.heap.size t x1 x2 := by
  have R := RowIs.new w #[.string t.ty, .string t.id, .string t.rel, .string t.sty, .string t.sid, .string t.srel, .string t.cav, .int .i64 t.g.k, .int .i64 t.g.a.x, .int .i64 t.g.a.n, .string t.g.a.t, .string t.g.a.y, x1, x2] T
  exact ⟨R.at rfl, R.at rfl, R.at rfl, R.at rfl, R.at rfl, R.at rfl, R.at rfl, R.at rfl, R.at rfl, R.at rfl, R.at rfl, R.at rfl, R.at rfl, R.at rfl, R.lt⟩

theorem retB_name {s : ByteArray} {e : Ending} (h : e = .returned (.bool (goodName s))) : RetB e (goodName s = true) := ⟨_, h, Iff.rfl⟩
def SubP (s : ByteArray) : Prop := s = ⟨#[42]⟩ ∨ idB s = true
def NamP (s : ByteArray) : Prop := s = ⟨#[]⟩ ∨ goodName s = true
theorem ne_str {a b : ByteArray} (h : ¬ a = b) : (a.toList == b.toList) = false := by
  have : ¬ a.toList = b.toList := fun e => h (by
    rw [ByteArray.toList_eq, ByteArray.toList_eq] at e
    exact Go.WideShapes.bytes_inj e)
  simpa using this
theorem isSubId_any (s : ByteArray) (hs : s.size ≤ maxLen) (w : World) :
    Calls Tryz.prog 40 #[.string s] w fun e w' => RetB e (SubP s) ∧ Below w.heap.size w w' := by
  have q := hide (fun w => isId_any s hs w)
  by_cases h : s = ⟨#[42]⟩
  · subst h
    go_enter Tryz.func40, Tryz.ntmps40
    go_wp2_with fail
    go_ret
    exact ⟨retB (b := true) ⟨fun _ => .inl rfl, fun _ => rfl⟩, Below.refl _ _⟩
  · have hn : (s.toList == [42]) = false := by
      have := ne_str h
      rwa [show (⟨#[42]⟩ : ByteArray).toList = [42] by rw [ByteArray.toList_eq]] at this
    have H := hide h
    clear h
    go_enter Tryz.func40, Tryz.ntmps40
    go_wp2_with fail
    refine (unhide q _).mono ?_
    rintro e w1 ⟨rfl, hb1⟩
    have B1 := hide hb1
    clear hb1 q
    cases hi : idB s
    · go_wp2_with fail
      go_ret
      exact ⟨retB (b := false) ⟨fun h => (by cases h), fun h => h.elim (fun h => absurd h (unhide H)) (fun h => (by rw [hi] at h; cases h))⟩, unhide B1⟩
    · go_wp2_with fail
      go_ret
      exact ⟨retB (b := true) ⟨fun _ => .inr hi, fun _ => rfl⟩, unhide B1⟩
theorem isNameOrNone_any (s : ByteArray) (hs : s.size ≤ maxLen) (w : World) :
    Calls Tryz.prog 41 #[.string s] w fun e w' => RetB e (NamP s) ∧ Below w.heap.size w w' := by
  have q := hide (fun w => iGoodName_any s hs w)
  by_cases h : s = ⟨#[]⟩
  · subst h
    go_enter Tryz.func41, Tryz.ntmps41
    go_wp2_with fail
    go_ret
    exact ⟨retB (b := true) ⟨fun _ => .inl rfl, fun _ => rfl⟩, Below.refl _ _⟩
  · have hn := ne_list h
    have H := hide h
    clear h
    go_enter Tryz.func41, Tryz.ntmps41
    go_wp2_with fail
    refine (unhide q _).mono ?_
    rintro e w1 ⟨rfl, hb1⟩
    have B1 := hide hb1
    clear hb1 q
    cases hi : goodName s
    · go_wp2_with fail
      go_ret
      exact ⟨retB (b := false) ⟨fun h => (by cases h), fun h => h.elim (fun h => absurd h (unhide H)) (fun h => (by rw [hi] at h; cases h))⟩, unhide B1⟩
    · go_wp2_with fail
      go_ret
      exact ⟨retB (b := true) ⟨fun _ => .inr hi, fun _ => rfl⟩, unhide B1⟩

/-- A tuple has a text. -/
structure Form (t : TupT) : Prop where
  p0 : goodName t.ty = true
  p1 : idB t.id = true
  p2 : goodName t.rel = true
  p3 : goodName t.sty = true
  p4 : SubP t.sid
  p5 : NamP t.srel
  p6 : NamP t.cav
  p7 : Told t.cav t.g

end Go.Proofs.YticidjceljjfnaaGreatDoor.V
