/- GMap, WKept, WRow, one behind the other. -/
import Derived.Test.YtppkgcedkdeccaaDoorJ5
import Derived.Maps.OwnOps
import Derived.Maps.OwnSet
import Derived.Maps.RangeWalk
import Derived.StringKeys
import Derived.DeepKeys4
import Derived.Test.YtppkgcedkdeccaaDoorJ8
import Derived.Laws.Rows
import Derived.Laws.MakeOwn
/- Maps by what they hold, whatever the keys; ranges over them. -/
namespace Go.Proofs.YtppkgcedkdeccaaDoor
open Go.RowKit Go.Maps

/-- How an element of a map reads: as itself. -/
def hvR (v : Value) : Option (DataW Value × List MemPlace) := some (.held v, [])

/-- A kind of keys: of type k, told as enc x where ok x. -/
structure KeyKind (P : Program) (k : TypeId) {α : Type} (enc : α → Value) (ok : α → Prop) : Prop where
  law : Keyed P k
  key : ∀ x, ok x → ∃ kl, keyOf P k (enc x) = some kl
  inv : ∀ v kl, keyOf P k v = some kl → ∃ x, v = enc x ∧ ok x
  inj : ∀ x y, enc x = enc y → x = y

section
variable {P : Program} {k : TypeId} {α : Type} {enc : α → Value} {ok : α → Prop}

/-- D holds m. -/
def KD (P : Program) (k : TypeId) (enc : α → Value) (D : DataW Value) (m : α → Option Value) : Prop := ∀ x kl, keyOf P k (enc x) = some kl → Maps.has D kl = (m x).isSome ∧ ∀ v, m x = some v → ∀ z, D.atKey kl z = .held v
/-- Block b is a map of at most n entries, that holds m. -/
def KM (P : Program) (k : TypeId) (enc : α → Value) (w : World) (b n : Nat) (m : α → Option Value) : Prop := ∃ D : DataW Value, w.ownsMap P k hvR b n D ∧ KD P k enc D m

theorem KM.kept {w w' : World} {b n : Nat} {m : α → Option Value} {row : Option Nat} (h : KM P k enc w b n m) (hg : w.grownBy w' row) (hne : some b ≠ row) : KM P k enc w' b n m := by
  obtain ⟨D, ho, hD⟩ := h; exact ⟨D, ho.kept hg hne, hD⟩
theorem KM.more {w : World} {b n n' : Nat} {m : α → Option Value} (h : KM P k enc w b n m) (hn : n ≤ n') : KM P k enc w b n' m := by
  obtain ⟨D, ho, hD⟩ := h; exact ⟨D, ho.mono hn, hD⟩
theorem KM.lt {w : World} {b n : Nat} {m : α → Option Value} (h : KM P k enc w b n m) : b < w.heap.size := by obtain ⟨D, ho, _⟩ := h; exact ho.lt
theorem KM.made (P : Program) (k : TypeId) (enc : α → Value) (w : World) : KM P k enc (w.alloc (.map #[] 0)) w.heap.size 0 (fun _ => none) :=
  ⟨.map [], World.ownsMap_made _ _ _ _, fun x kl _ => ⟨by simp [Maps.has], fun c h => by cases h⟩⟩
theorem KM.keepB {w w' : World} {b n B : Nat} {m : α → Option Value} (h : KM P k enc w b n m) (hb : Below B w w') (hlt : b < B) : KM P k enc w' b n m := by
  obtain ⟨D, ⟨es, clock, h1, h2⟩, hD⟩ := h
  exact ⟨D, ⟨es, clock, (hb.block b hlt).trans h1, h2⟩, hD⟩
theorem KM.block {w w' : World} {b n : Nat} {m : α → Option Value} (h : KM P k enc w b n m) (hb : w'.heap[b]? = w.heap[b]?) : KM P k enc w' b n m := by
  obtain ⟨D, ⟨es, clock, h1, h2⟩, hD⟩ := h
  exact ⟨D, ⟨es, clock, hb.trans h1, h2⟩, hD⟩
theorem KM.setCell {w : World} {b n : Nat} {m : α → Option Value} (h : KM P k enc w b n m) (b' o' : Nat) (hne : b ≠ b') (u : Value) : KM P k enc (w.setCell ⟨b', o', none⟩ u) b n m := by
  obtain ⟨D, ho, hD⟩ := h; exact ⟨D, ho.setCell hne u, hD⟩

def updK [DecidableEq α] (m : α → Option Value) (x : α) (c : Value) : α → Option Value := fun y => if y = x then some c else m y

theorem kd_atKey {D : DataW Value} {kl : Lit} {m : Option Value} {v z : Value} {ps : List MemPlace} (h1 : Maps.has D kl = m.isSome) (h2 : ∀ c, m = some c → ∀ z, D.atKey kl z = .held c) (h : hvR v = some (D.atKey kl (.held z), ps)) : v = m.getD z := by
  unfold hvR at h
  simp only [Option.some.injEq, Prod.mk.injEq] at h
  cases m with
  | none =>
    rw [Maps.atKey_of_not_has (by rw [h1]; rfl)] at h
    simpa using h.1
  | some c =>
    rw [h2 c rfl] at h
    simpa using h.1

variable (w : World) {ops : Array Oper} {rest : List Oper} {o : Oper} {a : Act} {Q : Exit → Act → World → Prop}

/-- 'v, ok := m[x]'. -/
theorem wpList_look_km (K : KeyKind P k enc ok) (hg : o.guard = none) (m x : Operand) (t : TypeId) (hop : o.op = Op.lookup t m x true) (e : TypeId) (ht : P.underlying t = some (.map k e)) {z : Value} (hz : (zeroValue e).run P w = .ok z w) (b n : Nat) (M : α → Option Value) (hm : a.eval m = .map (some b)) (hk : KM P k enc w b n M)
    (y : α) (hx : a.eval x = enc y) (hy : ok y) (v : Value) (r : Bool) (hv : (M y).getD z = v) (hr : (M y).isSome = r)
    (hK : wpList P ops Q rest (a.put o.dst (.tuple #[v, .bool r])) w) : wpList P ops Q (o :: rest) a w := by
  obtain ⟨D, hown, hD⟩ := hk
  obtain ⟨kl, hkl⟩ := K.key y hy
  refine wpList_lookup_own_ok w hg m x _ hop k e K.law ht hvR hz (.held z) [] rfl b n D hm hown (enc y) kl hx hkl ?_
  intro v' ps hv'
  obtain ⟨h1, h2⟩ := hD y kl hkl
  rw [kd_atKey h1 h2 hv', hv, h1, hr]
  exact hK

/-- 'm[x]'. -/
theorem wpList_get_km (K : KeyKind P k enc ok) (hg : o.guard = none) (m x : Operand) (t : TypeId) (hop : o.op = Op.lookup t m x false) (e : TypeId) (ht : P.underlying t = some (.map k e)) {z : Value} (hz : (zeroValue e).run P w = .ok z w) (b n : Nat) (M : α → Option Value) (hm : a.eval m = .map (some b)) (hk : KM P k enc w b n M)
    (y : α) (hx : a.eval x = enc y) (hy : ok y) (v : Value) (hv : (M y).getD z = v)
    (hK : wpList P ops Q rest (a.put o.dst v) w) : wpList P ops Q (o :: rest) a w := by
  obtain ⟨D, hown, hD⟩ := hk
  obtain ⟨kl, hkl⟩ := K.key y hy
  obtain ⟨v', ps, hrun, hv'⟩ := hown.lookup K.law ht hz (zd := .held z) (zp := []) rfl hkl
  obtain ⟨h1, h2⟩ := hD y kl hkl
  have e := kd_atKey h1 h2 hv'
  rw [hv] at e
  subst e
  refine wpList_plain hg fun K' hK' => ?_
  unfold Oper.wp
  simp [execOp, hop, hm, hx, hrun, Result.andThen]
  exact hK' _ _ hK

/-- 'm[x] = v'. -/
theorem wpList_put_km [DecidableEq α] (K : KeyKind P k enc ok) (hg : o.guard = none) (m x v : Operand) (t : TypeId) (hop : o.op = Op.mapUpdate t m x v) (e : TypeId) (ht : P.underlying t = some (.map k e)) (b n : Nat) (M : α → Option Value) (hm : a.eval m = .map (some b)) (hk : KM P k enc w b n M) (hn : n < maxLen)
    (y : α) (c : Value) (hx : a.eval x = enc y) (hv : a.eval v = c) (hy : ok y)
    (hK : ∀ w', KM P k enc w' b (n + 1) (updK M y c) → w.grownBy w' (some b) → w'.heap.size = w.heap.size → wpList P ops Q rest (a.put o.dst undef) w') : wpList P ops Q (o :: rest) a w := by
  obtain ⟨D, hown, hD⟩ := hk
  obtain ⟨kl, hkl⟩ := K.key y hy
  refine wpList_mapUpdate_in w hg m x v _ hop k e K.law ht hvR b n D hm hown hn (enc y) c kl hx hv hkl (.held c) [] rfl ?_
  intro w' h1 h2
  refine hK w' ⟨_, h1, fun y' kl' hk' => ?_⟩ h2.grown (by obtain ⟨es, cl, es', cl', _, rfl⟩ := h2; simp [ChangeMaps.setBlock])
  by_cases e : y' = y
  · subst e
    obtain rfl : kl' = kl := by rw [hkl] at hk'; exact (Option.some.inj hk').symm
    have hu : updK M y' c y' = some c := by simp [updK]
    rw [hu]
    refine ⟨Maps.has_put_same hown.isMap (K.law.key hkl) _, fun c' hc' z => ?_⟩
    cases hc'
    exact Maps.atKey_put_same hown.isMap (K.law.key hkl) _ z
  · have hne : kl' ≠ kl := fun e2 => e (K.inj _ _ (K.law.inj hk' (by rw [e2]; exact hkl)))
    have hu : updK M y c y' = M y' := by simp [updK, e]
    rw [hu, Maps.has_put_other hne]
    refine ⟨(hD y' kl' hk').1, fun c' hc' z => ?_⟩
    rw [Maps.atKey_put_other hne]
    exact (hD y' kl' hk').2 c' hc' z

/-- 'for x, v := range m' under way: those that are done have come. -/
def KR (P : Program) (k : TypeId) (enc : α → Value) (w : World) (b r n : Nat) (m : α → Option Value) (done : α → Prop) (cnt : Nat) : Prop :=
  ∃ (D : DataW Value) (left : Lit → Bool), w.ranges P k hvR b r n D left cnt ∧ KD P k enc D m ∧ ∀ x kl, keyOf P k (enc x) = some kl → (left kl = true ↔ (m x).isSome = true ∧ ¬ done x)
theorem KR.kept {w w' : World} {b r n cnt : Nat} {m : α → Option Value} {done : α → Prop} {row : Option Nat} (h : KR P k enc w b r n m done cnt) (hg : w.grownBy w' row) (hb : some b ≠ row) (hr : some r ≠ row) : KR P k enc w' b r n m done cnt := by
  obtain ⟨D, left, h1, h2, h3⟩ := h; exact ⟨D, left, h1.kept hg hb hr, h2, h3⟩
theorem KR.block {w w' : World} {b r n cnt : Nat} {m : α → Option Value} {done : α → Prop} (h : KR P k enc w b r n m done cnt) (hb : w'.heap[b]? = w.heap[b]?) (hr : w'.heap[r]? = w.heap[r]?) : KR P k enc w' b r n m done cnt := by
  obtain ⟨D, left, ⟨es, clock, since, seen, c0, x1, x2, x3, x4, x5, x6⟩, h2, h3⟩ := h
  exact ⟨D, left, ⟨es, clock, since, seen, c0, hb.trans x1, x2, x3, x4, hr.trans x5, x6⟩, h2, h3⟩
theorem KR.left {w : World} {b r n cnt : Nat} {m : α → Option Value} {done : α → Prop} (h : KR P k enc w b r n m done cnt) : w.rangeLeft b r = cnt := by
  obtain ⟨D, left, h1, _⟩ := h; exact h1.left_eq
theorem KR.owns {w : World} {b r n cnt : Nat} {m : α → Option Value} {done : α → Prop} (h : KR P k enc w b r n m done cnt) : KM P k enc w b n m := by
  obtain ⟨D, left, h1, h2, _⟩ := h; exact ⟨D, h1.owns, h2⟩
theorem KR.lt {w : World} {b r n cnt : Nat} {m : α → Option Value} {done : α → Prop} (h : KR P k enc w b r n m done cnt) : r < w.heap.size := by
  obtain ⟨D, left, h1, _⟩ := h; exact h1.lt
theorem KR.ne {w : World} {b r n cnt : Nat} {m : α → Option Value} {done : α → Prop} (h : KR P k enc w b r n m done cnt) : r ≠ b := by
  obtain ⟨D, left, h1, _⟩ := h; exact h1.ne

theorem wpList_range_km (K : KeyKind P k enc ok) (hg : o.guard = none) (m : Operand) (t : TypeId) (hop : o.op = Op.range t m) (e : TypeId) (ht : P.underlying t = some (.map k e)) (b n : Nat) (M : α → Option Value) (hm : a.eval m = .map (some b)) (hk : KM P k enc w b n M)
    (hK : ∀ w' cnt, KR P k enc w' b w.heap.size n M (fun _ => False) cnt → w.grownBy w' none → w'.heap.size = w.heap.size + 1 → wpList P ops Q rest (a.put o.dst (.pointer (some ⟨w.heap.size, 0, none⟩))) w') :
    wpList P ops Q (o :: rest) a w := by
  obtain ⟨D, hown, hD⟩ := hk
  refine wpList_range_own w hg m t hop k e K.law ht hvR b n D hm hown ?_
  intro w' h1 h2 h3
  exact hK w' _ ⟨D, _, h1, hD, fun x kl hkl => by rw [(hD x kl hkl).1]; simp⟩ h2 h3

theorem wpList_next_km (K : KeyKind P k enc ok) (hg : o.guard = none) (it : Operand) (hop : o.op = Op.next it false) (b r n : Nat) (M : α → Option Value) (done : α → Prop) (cnt : Nat) (hit : a.eval it = .pointer (some ⟨r, 0, none⟩)) (h : KR P k enc w b r n M done cnt)
    (hDone : (∀ x, ok x → (M x).isSome = true → done x) → wpList P ops Q rest (a.put o.dst (.tuple #[.bool false])) w)
    (hMore : ∀ (x : α) (v : Value) (w' : World) (cnt' : Nat), ok x → M x = some v → ¬ done x → KR P k enc w' b r n M (fun y => done y ∨ y = x) cnt' → cnt' < cnt → w.grownBy w' (some r) → w'.heap.size = w.heap.size →
      (Instr.entry (.pointer (some ⟨r, 0, none⟩))).run P w' = .ok (.tuple #[enc x, v]) w' → wpList P ops Q rest (a.put o.dst (.tuple #[.bool true, enc x, v])) w') :
    wpList P ops Q (o :: rest) a w := by
  obtain ⟨D, left, hr, hD, hl⟩ := h
  refine wpList_next_ranges w hg it hop k K.law hvR (α := {x : α // ok x}) (fun x => enc x.1) (fun v : Value => v) (fun key kl hkey => by obtain ⟨x, rfl, hx⟩ := K.inv key kl hkey; exact ⟨⟨x, hx⟩, rfl⟩) (fun v _ _ => ⟨v, rfl⟩) b r n D left cnt hit hr ?_ ?_
  · intro _ hf
    refine hDone fun x hx hs => ?_
    obtain ⟨kl, hkl⟩ := K.key x hx
    by_cases hd : done x
    · exact hd
    · have := (hl x kl hkl).2 ⟨hs, hd⟩
      rw [hf kl] at this; cases this
  · intro x v kl y w' cnt' hkl hlk hv hat hrg hlt hgr hsz hen
    obtain ⟨hs, hnd⟩ := (hl x.1 kl hkl).1 hlk
    obtain ⟨v', hv'⟩ := Option.isSome_iff_exists.1 hs
    have e : v = v' := by
      have h2 := (hD x.1 kl hkl).2 v' hv' (.held v)
      rw [hat (.held v)] at h2
      unfold hvR at hv
      simp only [Option.some.injEq] at hv
      rw [← hv] at h2
      simpa using h2
    subst e
    refine hMore x.1 v w' cnt' x.2 hv' hnd ⟨D, _, hrg, hD, fun z kl' hkl' => ?_⟩ hlt hgr hsz hen
    by_cases e : z = x.1
    · subst e
      obtain rfl : kl' = kl := by rw [hkl] at hkl'; exact (Option.some.inj hkl').symm
      rw [WideAt.sameKey_self (K.law.key hkl)]
      simp
    · have hne : kl' ≠ kl := fun e2 => e (K.inj _ _ (K.law.inj hkl' (by rw [e2]; exact hkl)))
      rw [Maps.sameKey_ne hne]
      simp only [Bool.not_false, Bool.and_true]
      rw [hl z kl' hkl']
      simp [e]
end

/-! ### strings as keys -/
theorem kStr : KeyKind Tryd.prog 9 Value.string (fun s : ByteArray => s.size ≤ maxLen) where
  law := string_keyed Tryd.underlying9
  key x hx := ⟨_, WideMaps.keyOf_string_mk Tryd.underlying9 hx⟩
  inv v kl h := by
    cases v <;> simp [keyOf, Tryd.underlying9, mapKey] at h
    exact ⟨_, rfl, h.1⟩
  inj x y h := by simpa using h
end Go.Proofs.YtppkgcedkdeccaaDoor
/- WKept, ported from seat 1a. -/
namespace Go.Proofs.YtppkgcedkdeccaaDoor.V
open Go.RowKit

/-- An atom lies in block b. -/
structure AtomAt (w : World) (b : Nat) (x n : Int) (t y : ByteArray) : Prop where
  c0 : w.cell? ⟨b, 0, none⟩ = some (.int .i64 x)
  c1 : w.cell? ⟨b, 1, none⟩ = some (.int .i64 n)
  c2 : w.cell? ⟨b, 2, none⟩ = some (.string t)
  c3 : w.cell? ⟨b, 3, none⟩ = some (.string y)
  z : b < w.heap.size

theorem AtomAt.keep {w w1 : World} {b : Nat} {x n : Int} {t y : ByteArray} (h : AtomAt w b x n t y) (hb : Below w.heap.size w w1) : AtomAt w1 b x n t y :=
  ⟨by rw [hb.cell h.z]; exact h.c0, by rw [hb.cell h.z]; exact h.c1, by rw [hb.cell h.z]; exact h.c2, by rw [hb.cell h.z]; exact h.c3, Nat.lt_of_lt_of_le h.z hb.size⟩
theorem AtomAt.kept {W : World} {b : Nat} {x n : Int} {t y : ByteArray} (h : AtomAt W b x n t y) (q : Kept W) : AtomAt q.w b x n t y := h.keep q.h
theorem AtomAt.new (w : World) (x n : Int) (t y : ByteArray) (T : TypeId) : AtomAt (w.alloc (.cells #[.int .i64 x, .int .i64 n, .string t, .string y] T)) w.heap.size x n t y :=
  ⟨World.cell?_alloc_mark w _ _ _ 0, World.cell?_alloc_mark w _ _ _ 1, World.cell?_alloc_mark w _ _ _ 2, World.cell?_alloc_mark w _ _ _ 3, by simp⟩
theorem AtomAt.more {w : World} {b : Nat} {x n : Int} {t y : ByteArray} (h : AtomAt w b x n t y) (o : Obj) : AtomAt (w.alloc o) b x n t y := h.keep (bAl (Below.refl _ _) o)
theorem AtomAt.new1 (w : World) (o : Obj) (x n : Int) (t y : ByteArray) (T : TypeId) : AtomAt ((w.alloc o).alloc (.cells #[.int .i64 x, .int .i64 n, .string t, .string y] T)) (w.heap.size + 1) x n t y := by
  have := AtomAt.new (w.alloc o) x n t y T
  rw [World.size_alloc] at this
  exact this
end Go.Proofs.YtppkgcedkdeccaaDoor.V
/- WRow, ported from seat 1a. -/
namespace Go.Proofs.YtppkgcedkdeccaaDoor.V
open Go.RowKit

/-- An atom as numbers and texts. -/
structure AtomT where
  x : Int
  n : Int
  t : ByteArray
  y : ByteArray

def AtomT.v (a : AtomT) : Value := .agg #[.int .i64 a.x, .int .i64 a.n, .string a.t, .string a.y]
structure AtomT.Ok (a : AtomT) : Prop where
  n8 : -9223372036854775808 ≤ a.n
  n9 : a.n ≤ 9223372036854775807
  t9 : a.t.size ≤ maxLen
  y9 : a.y.size ≤ maxLen

/-- Four cells from o on. -/
structure AtomIn (w : World) (b o : Nat) (a : AtomT) : Prop where
  c0 : w.cell? ⟨b, o, none⟩ = some (.int .i64 a.x)
  c1 : w.cell? ⟨b, o + 1, none⟩ = some (.int .i64 a.n)
  c2 : w.cell? ⟨b, o + 2, none⟩ = some (.string a.t)
  c3 : w.cell? ⟨b, o + 3, none⟩ = some (.string a.y)

theorem AtomIn.keep {w w1 : World} {b o : Nat} {a : AtomT} (h : AtomIn w b o a) (z : b < w.heap.size) (hb : Below w.heap.size w w1) : AtomIn w1 b o a :=
  ⟨cellB hb z h.c0, cellB hb z h.c1, cellB hb z h.c2, cellB hb z h.c3⟩

structure AtomRow (w : World) (b off : Nat) (l : List AtomT) : Prop where
  z : b < w.heap.size
  c : ∀ i (h : i < l.length), AtomIn w b (off + i * 4) l[i]
theorem AtomRow.keep {w w1 : World} {b off : Nat} {l : List AtomT} (h : AtomRow w b off l) (hb : Below w.heap.size w w1) : AtomRow w1 b off l :=
  ⟨Nat.lt_of_lt_of_le h.z hb.size, fun i hi => (h.c i hi).keep h.z hb⟩

structure StrRow (w : World) (b off : Nat) (l : List ByteArray) : Prop where
  z : b < w.heap.size
  c : ∀ i (h : i < l.length), w.cell? ⟨b, off + i, none⟩ = some (.string l[i])
theorem StrRow.keep {w w1 : World} {b off : Nat} {l : List ByteArray} (h : StrRow w b off l) (hb : Below w.heap.size w w1) : StrRow w1 b off l :=
  ⟨Nat.lt_of_lt_of_le h.z hb.size, fun i hi => cellB hb h.z (h.c i hi)⟩

/-- The slice a, len reads as l. -/
def SlA (w : World) (a : Option Addr) (len : Nat) (l : List AtomT) : Prop := len = l.length ∧ (l = [] ∨ ∃ b off, a = some ⟨b, off, none⟩ ∧ AtomRow w b off l)
def SlS (w : World) (a : Option Addr) (len : Nat) (l : List ByteArray) : Prop := len = l.length ∧ (l = [] ∨ ∃ b off, a = some ⟨b, off, none⟩ ∧ StrRow w b off l)
theorem SlA.keep {w w1 : World} {a : Option Addr} {len : Nat} {l : List AtomT} (h : SlA w a len l) (hb : Below w.heap.size w w1) : SlA w1 a len l :=
  ⟨h.1, by
    rcases h.2 with e | ⟨b, off, e, r⟩
    · exact .inl e
    · exact .inr ⟨b, off, e, r.keep hb⟩⟩
theorem SlS.keep {w w1 : World} {a : Option Addr} {len : Nat} {l : List ByteArray} (h : SlS w a len l) (hb : Below w.heap.size w w1) : SlS w1 a len l :=
  ⟨h.1, by
    rcases h.2 with e | ⟨b, off, e, r⟩
    · exact .inl e
    · exact .inr ⟨b, off, e, r.keep hb⟩⟩
theorem SlA.at {w : World} {a : Option Addr} {len : Nat} {l : List AtomT} (h : SlA w a len l) {k : Nat} (hk : k < len) : ∃ b off, a = some ⟨b, off, none⟩ ∧ AtomRow w b off l := by
  rcases h.2 with e | e
  · rw [h.1, e] at hk; simp at hk
  · exact e
theorem SlS.at {w : World} {a : Option Addr} {len : Nat} {l : List ByteArray} (h : SlS w a len l) {k : Nat} (hk : k < len) : ∃ b off, a = some ⟨b, off, none⟩ ∧ StrRow w b off l := by
  rcases h.2 with e | e
  · rw [h.1, e] at hk; simp at hk
  · exact e

/-- Block b holds the cells C. -/
def RowIs (w : World) (b : Nat) (C : Array Value) (T : TypeId) : Prop := w.heap[b]? = some (.cells C T (0, 0))
theorem RowIs.cell {w : World} {b : Nat} {C : Array Value} {T : TypeId} (h : RowIs w b C T) (o : Nat) : w.cell? ⟨b, o, none⟩ = C[o]? := by
  unfold RowIs at h; simp [World.cell?, h]
theorem RowIs.froz {w : World} {b : Nat} {C : Array Value} {T : TypeId} (h : RowIs w b C T) (o : Nat) : w.frozen? ⟨b, o, none⟩ = false := by
  unfold RowIs at h; simp [World.frozen?, h]
theorem RowIs.lt {w : World} {b : Nat} {C : Array Value} {T : TypeId} (h : RowIs w b C T) : b < w.heap.size := by
  unfold RowIs at h; exact (Array.getElem?_eq_some_iff.1 h).1
theorem RowIs.keep {w w1 : World} {b : Nat} {C : Array Value} {T : TypeId} (h : RowIs w b C T) (hb : Below w.heap.size w w1) : RowIs w1 b C T := by
  have hl := h.lt
  unfold RowIs at *; rw [hb.block b hl]; exact h
theorem RowIs.set {w : World} {b : Nat} {C : Array Value} {T : TypeId} (h : RowIs w b C T) (o : Nat) (v : Value) : RowIs (w.setCell ⟨b, o, none⟩ v) b (C.setIfInBounds o v) T :=
  heap_setCell_same w b o C T v h
theorem RowIs.new (w : World) (C : Array Value) (T : TypeId) : RowIs (w.alloc (.cells C T)) w.heap.size C T := by
  unfold RowIs; show (w.heap.push _)[w.heap.size]? = _; simp

/-- The first k atoms of l lie in C. -/
def Filled (C : Array Value) (l : List AtomT) (k : Nat) : Prop :=
  ∀ i (h : i < l.length), i < k → C[i * 4]? = some (.int .i64 l[i].x) ∧ C[i * 4 + 1]? = some (.int .i64 l[i].n) ∧ C[i * 4 + 2]? = some (.string l[i].t) ∧ C[i * 4 + 3]? = some (.string l[i].y)
def set4 (C : Array Value) (k : Nat) (a : AtomT) : Array Value :=
  (((C.setIfInBounds (k * 4) (.int .i64 a.x)).setIfInBounds (k * 4 + 1) (.int .i64 a.n)).setIfInBounds (k * 4 + 2) (.string a.t)).setIfInBounds (k * 4 + 3) (.string a.y)
theorem size_set4 (C : Array Value) (k : Nat) (a : AtomT) : (set4 C k a).size = C.size := by simp [set4]
theorem Filled.set {C : Array Value} {l : List AtomT} {k : Nat} (h : Filled C l k) (hk : k < l.length) (hC : C.size = l.length * 4) : Filled (set4 C k l[k]) l (k + 1) := by
  intro i hi hik
  unfold set4
  by_cases e : i = k
  · subst e
    have s0 : i * 4 < C.size := by omega
    have s1 : i * 4 + 1 < C.size := by omega
    have s2 : i * 4 + 2 < C.size := by omega
    have s3 : i * 4 + 3 < C.size := by omega
    simp [s0, s1, s2, s3]
  · have := h i hi (by omega)
    simp only [Array.getElem?_setIfInBounds]
    repeat rw [if_neg (by omega)]
    exact this
theorem Filled.row {w : World} {b : Nat} {C : Array Value} {T : TypeId} {l : List AtomT} (h : Filled C l l.length) (hr : RowIs w b C T) : AtomRow w b 0 l :=
  ⟨hr.lt, fun i hi => by
    obtain ⟨h0, h1, h2, h3⟩ := h i hi hi
    refine ⟨?_, ?_, ?_, ?_⟩
    · rw [Nat.zero_add, hr.cell]; exact h0
    · rw [Nat.zero_add, hr.cell]; exact h1
    · rw [Nat.zero_add, hr.cell]; exact h2
    · rw [Nat.zero_add, hr.cell]; exact h3⟩

def FilledS (C : Array Value) (l : List ByteArray) (k : Nat) : Prop := ∀ i (h : i < l.length), i < k → C[i]? = some (.string l[i])
theorem FilledS.set {C : Array Value} {l : List ByteArray} {k : Nat} (h : FilledS C l k) (hk : k < l.length) (hC : C.size = l.length) : FilledS (C.setIfInBounds k (.string l[k])) l (k + 1) := by
  intro i hi hik
  by_cases e : i = k
  · subst e
    have s0 : i < C.size := by omega
    simp [s0]
  · have := h i hi (by omega)
    rw [Array.getElem?_setIfInBounds, if_neg (by omega)]
    exact this
theorem FilledS.row {w : World} {b : Nat} {C : Array Value} {T : TypeId} {l : List ByteArray} (h : FilledS C l l.length) (hr : RowIs w b C T) : StrRow w b 0 l :=
  ⟨hr.lt, fun i hi => by rw [Nat.zero_add, hr.cell]; exact h i hi hi⟩
theorem cell_setOther {w : World} {b b' o o' : Nat} (v : Value) (h : b ≠ b') : (w.setCell ⟨b', o', none⟩ v).cell? ⟨b, o, none⟩ = w.cell? ⟨b, o, none⟩ :=
  World.cell?_of_block (heap_setCell_other w ⟨b', o', none⟩ b v h)
theorem AtomRow.setOther {w : World} {b off : Nat} {l : List AtomT} (hr : AtomRow w b off l) {b' o' : Nat} (v : Value) (h : b ≠ b') : AtomRow (w.setCell ⟨b', o', none⟩ v) b off l :=
  ⟨by simpa [World.setCell] using hr.z, fun i hi => ⟨by rw [cell_setOther v h]; exact (hr.c i hi).c0, by rw [cell_setOther v h]; exact (hr.c i hi).c1, by rw [cell_setOther v h]; exact (hr.c i hi).c2, by rw [cell_setOther v h]; exact (hr.c i hi).c3⟩⟩
theorem StrRow.setOther {w : World} {b off : Nat} {l : List ByteArray} (hr : StrRow w b off l) {b' o' : Nat} (v : Value) (h : b ≠ b') : StrRow (w.setCell ⟨b', o', none⟩ v) b off l :=
  ⟨by simpa [World.setCell] using hr.z, fun i hi => by rw [cell_setOther v h]; exact hr.c i hi⟩
theorem RowIs.setOther {w : World} {b : Nat} {C : Array Value} {T : TypeId} (h : RowIs w b C T) {b' o' : Nat} (u : Value) (hn : b ≠ b') : RowIs (w.setCell ⟨b', o', none⟩ u) b C T := by
  unfold RowIs at *; rw [heap_setCell_other w ⟨b', o', none⟩ b u hn]; exact h
theorem RowIs.at {w : World} {b : Nat} {C : Array Value} {T : TypeId} (h : RowIs w b C T) {o : Nat} {v : Value} (e : C[o]? = some v) : w.cell? ⟨b, o, none⟩ = some v := by rw [h.cell]; exact e

/-- A value as numbers, texts and lists. -/
structure ValT where
  k : Int
  a : AtomT
  items : List AtomT
  names : List ByteArray
structure ValT.Ok (v : ValT) : Prop where
  a : v.a.Ok
  items : ∀ q ∈ v.items, AtomT.Ok q
  names : ∀ q ∈ v.names, ByteArray.size q ≤ maxLen

/-- The seven cells of a value in block b; s1, s2: its two slices. -/
structure ValAt (w : World) (b : Nat) (v : ValT) (s1 s2 : Value) : Prop where
  c0 : w.cell? ⟨b, 0, none⟩ = some (.int .i64 v.k)
  c1 : w.cell? ⟨b, 1, none⟩ = some (.int .i64 v.a.x)
  c2 : w.cell? ⟨b, 2, none⟩ = some (.int .i64 v.a.n)
  c3 : w.cell? ⟨b, 3, none⟩ = some (.string v.a.t)
  c4 : w.cell? ⟨b, 4, none⟩ = some (.string v.a.y)
  c5 : w.cell? ⟨b, 5, none⟩ = some s1
  c6 : w.cell? ⟨b, 6, none⟩ = some s2
  z : b < w.heap.size
theorem ValAt.keep {w w1 : World} {b : Nat} {v : ValT} {s1 s2 : Value} (h : ValAt w b v s1 s2) (hb : Below w.heap.size w w1) : ValAt w1 b v s1 s2 :=
  ⟨cellB hb h.z h.c0, cellB hb h.z h.c1, cellB hb h.z h.c2, cellB hb h.z h.c3, cellB hb h.z h.c4, cellB hb h.z h.c5, cellB hb h.z h.c6, Nat.lt_of_lt_of_le h.z hb.size⟩
theorem ValAt.setOther {w : World} {b : Nat} {v : ValT} {s1 s2 : Value} (h : ValAt w b v s1 s2) {b' o' : Nat} (u : Value) (hn : b ≠ b') : ValAt (w.setCell ⟨b', o', none⟩ u) b v s1 s2 :=
  ⟨by rw [cell_setOther u hn]; exact h.c0, by rw [cell_setOther u hn]; exact h.c1, by rw [cell_setOther u hn]; exact h.c2, by rw [cell_setOther u hn]; exact h.c3, by rw [cell_setOther u hn]; exact h.c4,
    by rw [cell_setOther u hn]; exact h.c5, by rw [cell_setOther u hn]; exact h.c6, by simpa [World.setCell] using h.z⟩
theorem ValAt.new (w : World) (v : ValT) (s1 s2 : Value) (T : TypeId) : ValAt (w.alloc (.cells #[.int .i64 v.k, .int .i64 v.a.x, .int .i64 v.a.n, .string v.a.t, .string v.a.y, s1, s2] T)) w.heap.size v s1 s2 :=
  ⟨World.cell?_alloc_mark w _ _ _ 0, World.cell?_alloc_mark w _ _ _ 1, World.cell?_alloc_mark w _ _ _ 2, World.cell?_alloc_mark w _ _ _ 3, World.cell?_alloc_mark w _ _ _ 4, World.cell?_alloc_mark w _ _ _ 5, World.cell?_alloc_mark w _ _ _ 6, by simp⟩
theorem ValAt.more {w : World} {b : Nat} {v : ValT} {s1 s2 : Value} (h : ValAt w b v s1 s2) (o : Obj) : ValAt (w.alloc o) b v s1 s2 := h.keep (bAl (Below.refl _ _) o)
theorem ValAt.new1 (w : World) (o : Obj) (v : ValT) (s1 s2 : Value) (T : TypeId) : ValAt ((w.alloc o).alloc (.cells #[.int .i64 v.k, .int .i64 v.a.x, .int .i64 v.a.n, .string v.a.t, .string v.a.y, s1, s2] T)) (w.heap.size + 1) v s1 s2 := by
  have := ValAt.new (w.alloc o) v s1 s2 T
  rw [World.size_alloc] at this
  exact this
theorem undrew {w w' : World} (h : Below w.drew.heap.size w.drew w') : Below w.heap.size w w' := ⟨h.os, h.tape, h.output, h.size, h.block⟩
theorem ValAt.seven {w w' : World} {b : Nat} {v : ValT} {s1 s2 : Value} (h : ValAt w b v s1 s2) (hb : Below w.heap.size w w') :
    w'.cell? ⟨b, 0, none⟩ = some (.int .i64 v.k) ∧ w'.cell? ⟨b, 1, none⟩ = some (.int .i64 v.a.x) ∧ w'.cell? ⟨b, 2, none⟩ = some (.int .i64 v.a.n) ∧ w'.cell? ⟨b, 3, none⟩ = some (.string v.a.t)
      ∧ w'.cell? ⟨b, 4, none⟩ = some (.string v.a.y) ∧ w'.cell? ⟨b, 5, none⟩ = some s1 ∧ w'.cell? ⟨b, 6, none⟩ = some s2 :=
  have k := h.keep hb
  ⟨k.c0, k.c1, k.c2, k.c3, k.c4, k.c5, k.c6⟩
end Go.Proofs.YtppkgcedkdeccaaDoor.V
