/- TTup, QAtV, one behind the other. -/
import Derived.Test.YticidjceljjfnaaGreatDoorJ20
import Derived.Test.YticidjceljjfnaaGreatDoorJ10
/- A tuple: its fields and cells; impl.isSubId, isNameOrNone, hasTupleText, spec.l7Form. -/
namespace Go.Proofs.YticidjceljjfnaaGreatDoor.V
open Go.RowKit
set_option maxRecDepth 20000

structure TupT where
  ty : ByteArray
  id : ByteArray
  rel : ByteArray
  sty : ByteArray
  sid : ByteArray
  srel : ByteArray
  cav : ByteArray
  g : ValT
structure TupT.Ok (t : TupT) : Prop where
  h_ty : t.ty.size ≤ maxLen
  h_id : t.id.size ≤ maxLen
  h_rel : t.rel.size ≤ maxLen
  h_sty : t.sty.size ≤ maxLen
  h_sid : t.sid.size ≤ maxLen
  h_srel : t.srel.size ≤ maxLen
  h_cav : t.cav.size ≤ maxLen
  g : t.g.Ok
abbrev tAg (t : TupT) (a1 : Option Addr) (l1 c1 : Nat) (a2 : Option Addr) (l2 c2 : Nat) : Value := .agg #[.string t.ty, .string t.id, .string t.rel, .string t.sty, .string t.sid, .string t.srel, .string t.cav, .int .i64 t.g.k, .int .i64 t.g.a.x, .int .i64 t.g.a.n, .string t.g.a.t, .string t.g.a.y, .slice a1 l1 c1, .slice a2 l2 c2]
structure TupAt (w : World) (b : Nat) (t : TupT) (x1 x2 : Value) : Prop where
  d0 : w.cell? ⟨b, 0, none⟩ = some (.string t.ty)
  d1 : w.cell? ⟨b, 1, none⟩ = some (.string t.id)
  d2 : w.cell? ⟨b, 2, none⟩ = some (.string t.rel)
  d3 : w.cell? ⟨b, 3, none⟩ = some (.string t.sty)
  d4 : w.cell? ⟨b, 4, none⟩ = some (.string t.sid)
  d5 : w.cell? ⟨b, 5, none⟩ = some (.string t.srel)
  d6 : w.cell? ⟨b, 6, none⟩ = some (.string t.cav)
  d7 : w.cell? ⟨b, 7, none⟩ = some (.int .i64 t.g.k)
  d8 : w.cell? ⟨b, 8, none⟩ = some (.int .i64 t.g.a.x)
  d9 : w.cell? ⟨b, 9, none⟩ = some (.int .i64 t.g.a.n)
  d10 : w.cell? ⟨b, 10, none⟩ = some (.string t.g.a.t)
  d11 : w.cell? ⟨b, 11, none⟩ = some (.string t.g.a.y)
  d12 : w.cell? ⟨b, 12, none⟩ = some (x1)
  d13 : w.cell? ⟨b, 13, none⟩ = some (x2)
  lt : b < w.heap.size
theorem TupAt.keep {w w' : World} {b : Nat} {t : TupT} {x1 x2 : Value} (h : TupAt w b t x1 x2) (hb : Below w.heap.size w w') : TupAt w' b t x1 x2 :=
  ⟨(hb.cell h.lt).trans h.d0, (hb.cell h.lt).trans h.d1, (hb.cell h.lt).trans h.d2, (hb.cell h.lt).trans h.d3, (hb.cell h.lt).trans h.d4, (hb.cell h.lt).trans h.d5, (hb.cell h.lt).trans h.d6, (hb.cell h.lt).trans h.d7, (hb.cell h.lt).trans h.d8, (hb.cell h.lt).trans h.d9, (hb.cell h.lt).trans h.d10, (hb.cell h.lt).trans h.d11, (hb.cell h.lt).trans h.d12, (hb.cell h.lt).trans h.d13, Nat.lt_of_lt_of_le h.lt hb.size⟩
theorem TupAt.new (w : World) (t : TupT) (x1 x2 : Value) (T : TypeId) : TupAt (w.alloc (.cells #[.string t.ty, .string t.id, .string t.rel, .string t.sty, .string t.sid, .string t.srel, .string t.cav, .int .i64 t.g.k, .int .i64 t.g.a.x, .int .i64 t.g.a.n, .string t.g.a.t, .string t.g.a.y, x1, x2] T)) w.heap.size t x1 x2 := by
  have R := RowIs.new w #[.string t.ty, .string t.id, .string t.rel, .string t.sty, .string t.sid, .string t.srel, .string t.cav, .int .i64 t.g.k, .int .i64 t.g.a.x, .int .i64 t.g.a.n, .string t.g.a.t, .string t.g.a.y, x1, x2] T
  exact ⟨R.at rfl, R.at rfl, R.at rfl, R.at rfl, R.at rfl, R.at rfl, R.at rfl, R.at rfl, R.at rfl, R.at rfl, R.at rfl, R.at rfl, R.at rfl, R.at rfl, R.lt⟩

theorem retB_name {s : ByteArray} {e : Ending} (h : e = .returned (.bool (goodName s))) : RetB e (goodName s = true) := ⟨_, h, Iff.rfl⟩
def SubP (s : ByteArray) : Prop := s = ⟨#[42]⟩ ∨ idB s = true
def NamP (s : ByteArray) : Prop := s = ⟨#[]⟩ ∨ goodName s = true
theorem ne_str {a b : ByteArray} (h : ¬ a = b) : (a.toList == b.toList) = false := by
  have : ¬ a.toList = b.toList := fun e => h (by
    rw [ByteArray.toList_eq, ByteArray.toList_eq] at e
    exact Go.WideShapes.bytes_inj e)
  simpa using this
theorem isSubId_any (s : ByteArray) (hs : s.size ≤ maxLen) (w : World) :
    Calls Tryz.prog 40 #[.string s] w fun e w' => RetB e (SubP s) ∧ Below w.heap.size w w' := by
  have q := hide (fun w => isId_any s hs w)
  by_cases h : s = ⟨#[42]⟩
  · subst h
    go_enter Tryz.func40, Tryz.ntmps40
    go_wp2_with fail
    go_ret
    exact ⟨retB (b := true) ⟨fun _ => .inl rfl, fun _ => rfl⟩, Below.refl _ _⟩
  · have hn : (s.toList == [42]) = false := by
      have := ne_str h
      rwa [show (⟨#[42]⟩ : ByteArray).toList = [42] by rw [ByteArray.toList_eq]] at this
    have H := hide h
    clear h
    go_enter Tryz.func40, Tryz.ntmps40
    go_wp2_with fail
    refine (unhide q _).mono ?_
    rintro e w1 ⟨rfl, hb1⟩
    have B1 := hide hb1
    clear hb1 q
    cases hi : idB s
    · go_wp2_with fail
      go_ret
      exact ⟨retB (b := false) ⟨fun h => (by cases h), fun h => h.elim (fun h => absurd h (unhide H)) (fun h => (by rw [hi] at h; cases h))⟩, unhide B1⟩
    · go_wp2_with fail
      go_ret
      exact ⟨retB (b := true) ⟨fun _ => .inr hi, fun _ => rfl⟩, unhide B1⟩
theorem isNameOrNone_any (s : ByteArray) (hs : s.size ≤ maxLen) (w : World) :
    Calls Tryz.prog 41 #[.string s] w fun e w' => RetB e (NamP s) ∧ Below w.heap.size w w' := by
  have q := hide (fun w => iGoodName_any s hs w)
  by_cases h : s = ⟨#[]⟩
  · subst h
    go_enter Tryz.func41, Tryz.ntmps41
    go_wp2_with fail
    go_ret
    exact ⟨retB (b := true) ⟨fun _ => .inl rfl, fun _ => rfl⟩, Below.refl _ _⟩
  · have hn := ne_list h
    have H := hide h
    clear h
    go_enter Tryz.func41, Tryz.ntmps41
    go_wp2_with fail
    refine (unhide q _).mono ?_
    rintro e w1 ⟨rfl, hb1⟩
    have B1 := hide hb1
    clear hb1 q
    cases hi : goodName s
    · go_wp2_with fail
      go_ret
      exact ⟨retB (b := false) ⟨fun h => (by cases h), fun h => h.elim (fun h => absurd h (unhide H)) (fun h => (by rw [hi] at h; cases h))⟩, unhide B1⟩
    · go_wp2_with fail
      go_ret
      exact ⟨retB (b := true) ⟨fun _ => .inr hi, fun _ => rfl⟩, unhide B1⟩

/-- A tuple has a text. -/
structure Form (t : TupT) : Prop where
  p0 : goodName t.ty = true
  p1 : idB t.id = true
  p2 : goodName t.rel = true
  p3 : goodName t.sty = true
  p4 : SubP t.sid
  p5 : NamP t.srel
  p6 : NamP t.cav
  p7 : Told t.cav t.g

end Go.Proofs.YticidjceljjfnaaGreatDoor.V
/- spec.l1Text at an address. -/
namespace Go.Proofs.YticidjceljjfnaaGreatDoor
open Go.RowKit

set_option maxRecDepth 8000 in
set_option maxHeartbeats 2000000 in
theorem l1TextA_any (n : Int) (t ty : ByteArray) (w : World) (h8 : -9223372036854775808 ≤ n) (h9 : n ≤ 9223372036854775807) (hg : goodAtom 6 n t ty = true) :
    Calls Tryz.prog 61 #[.agg #[.int .i64 6, .int .i64 n, .string t, .string ty]] w fun e w' => e = .returned (.string ⟨(atomL 6 n t ty).toArray⟩) ∧ Below w.heap.size w w' := by
  have B := hide (bAl (Below.refl w.heap.size w) (.cells #[.int .i64 6, .int .i64 n, .string t, .string ty] 32))
  have R := hide (RowIs.new w #[.int .i64 6, .int .i64 n, .string t, .string ty] 32)
  have HG := hide hg
  clear hg
  obtain ⟨a0, a1, a2⟩ := good_addr (unhide HG)
  have qo := hide (fun w => l1Block_any 6 n t ty w a0 h9 a2)
  have HE := hide (show atomL 6 n t ty = blkL (n / 64) (n % 64) from rfl)
  generalize atomL 6 n t ty = E at HE
  obtain ⟨F, hF⟩ : ∃ F, n / 64 = F := ⟨_, rfl⟩
  have hF0 : 0 ≤ F := by omega
  have hF1 : F < 4294967296 := by omega
  have hm0 : 0 ≤ n % 64 := by omega
  rw [hF] at qo HE
  clear hF a1
  obtain ⟨x1, ex1⟩ : ∃ x, F / 16777216 = x := ⟨_, rfl⟩
  obtain ⟨x2, ex2⟩ : ∃ x, F / 65536 % 256 = x := ⟨_, rfl⟩
  obtain ⟨x3, ex3⟩ : ∃ x, F / 256 % 256 = x := ⟨_, rfl⟩
  obtain ⟨x4, ex4⟩ : ∃ x, F % 256 = x := ⟨_, rfl⟩
  obtain ⟨x5, ex5⟩ : ∃ x, n % 64 = x := ⟨_, rfl⟩
  have HE2 := hide (show blkL F (n % 64) = Lib.join ([x1, x2, x3, x4].map Lib.itoa) [46] ++ 47 :: Lib.itoa x5 by rw [← ex1, ← ex2, ← ex3, ← ex4, ← ex5]; rfl)
  have b1 : 0 ≤ x1 ∧ x1 ≤ 4294967296 := by omega
  have b2 : 0 ≤ x2 ∧ x2 ≤ 4294967296 := by omega
  have b3 : 0 ≤ x3 ∧ x3 ≤ 4294967296 := by omega
  have b4 : 0 ≤ x4 ∧ x4 ≤ 4294967296 := by omega
  have b5 : 0 ≤ x5 ∧ x5 ≤ 4294967296 := by omega
  obtain ⟨I, hI⟩ : ∃ I : Int → ByteArray, ∀ x, I x = ⟨(Lib.itoa x).toArray⟩ := ⟨fun x => ⟨(Lib.itoa x).toArray⟩, fun x => rfl⟩
  have HI := hide hI
  have qn := hide (show ∀ x w, (0 ≤ x ∧ x ≤ 4294967296) → Calls Tryz.prog 86 #[.int .i64 x] w fun e w' => e = .returned (.string (I x)) ∧ Below w.heap.size w w' from
    fun x w hx => by rw [unhide HI]; exact l1Num_any x w (by omega) (by omega))
  have zn : ∀ x : Int, (0 ≤ x ∧ x ≤ 4294967296) → (I x).size ≤ 21 := fun x hx => by
    rw [unhide HI]; show (Lib.itoa x).toArray.size ≤ _; rw [List.size_toArray]; exact Lib.itoa_length_le x (by omega) (by omega)
  have z1 := zn x1 b1
  have z2 := zn x2 b2
  have z3 := zn x3 b3
  have z4 := zn x4 b4
  have z5 := zn x5 b5
  clear hI zn
  have fin := hide (show (I x1 ++ ⟨#[46]⟩ ++ I x2 ++ ⟨#[46]⟩ ++ I x3 ++ ⟨#[46]⟩ ++ I x4 ++ ⟨#[47]⟩ ++ I x5 : ByteArray) = ⟨E.toArray⟩ by
    rw [unhide HE, unhide HE2, unhide HI, unhide HI, unhide HI, unhide HI, unhide HI]
    apply ByteArray.ext
    apply Array.toList_inj.1
    simp [ByteArray.data_append, Lib.join, List.intercalate])
  have s1 : ¬ 9223372036854775806 < (I x1).size := by omega
  have s2 : ¬ 9223372036854775807 < (I x1).size + 1 + (I x2).size := by omega
  have s3 : ¬ 9223372036854775806 < (I x1).size + 1 + (I x2).size := by omega
  have s4 : ¬ 9223372036854775807 < (I x1).size + 1 + (I x2).size + 1 + (I x3).size := by omega
  have s5 : ¬ 9223372036854775806 < (I x1).size + 1 + (I x2).size + 1 + (I x3).size := by omega
  have s6 : ¬ 9223372036854775807 < (I x1).size + 1 + (I x2).size + 1 + (I x3).size + 1 + (I x4).size := by omega
  have s7 : ¬ 9223372036854775806 < (I x1).size + 1 + (I x2).size + 1 + (I x3).size + 1 + (I x4).size := by omega
  have s8 : ¬ 9223372036854775807 < (I x1).size + 1 + (I x2).size + 1 + (I x3).size + 1 + (I x4).size + 1 + (I x5).size := by omega
  go_enter Tryz.func61, Tryz.ntmps61
  go_wp2_with fail
  refine (unhide qo _).mono ?_
  rintro e w2 ⟨rfl, hb2⟩
  have B2 := hide (bTr (unhide B) hb2)
  replace R := hide ((unhide R).keep hb2)
  clear hb2 qo
  have ne : Nonempty (Kept w2) := ⟨⟨w2, Below.refl _ _⟩⟩
  have f1 := kept_cell (unhide R).lt ((unhide R).at (o := 1) (v := .int .i64 n) rfl)
  go_wp2_with fail
  refine wp_region_kept (by kernel_rfl) (by kernel_rfl) ?_
  repeat (first
    | go_big_quiet_step ((go_at_call 86; exact kept_call (unhide qn _ _ (by assumption))))
    | quiet_step ((go_at_call 86; exact kept_call (unhide qn _ _ (by assumption)))))
  refine wpQuiet_nil ?_
  rintro _ ⟨q, rfl⟩
  obtain ⟨w3, hb3⟩ := q
  go_wp2_with fail
  go_ret
  exact ⟨by rw [← unhide fin]; rfl, bTr (unhide B2) hb3⟩
end Go.Proofs.YticidjceljjfnaaGreatDoor
