/- Maps by what they hold, whatever the keys; ranges over them. -/
import Derived.Test.YtjmpakpodhbbpaaQLeaf
import Derived.Maps.OwnOps
import Derived.Maps.OwnSet
import Derived.Maps.RangeWalk
import Derived.StringKeys
import Derived.DeepKeys4
namespace Go.Proofs.Ytjmpakpodhbbpaa
open Go.RowKit Go.Maps

/-- How an element of a map reads: as itself. -/
def hvR (v : Value) : Option (DataW Value × List MemPlace) := some (.held v, [])

/-- A kind of keys: of type k, told as enc x where ok x. -/
structure KeyKind (P : Program) (k : TypeId) {α : Type} (enc : α → Value) (ok : α → Prop) : Prop where
  law : Keyed P k
  key : ∀ x, ok x → ∃ kl, keyOf P k (enc x) = some kl
  inv : ∀ v kl, keyOf P k v = some kl → ∃ x, v = enc x ∧ ok x
  inj : ∀ x y, enc x = enc y → x = y

section
variable {P : Program} {k : TypeId} {α : Type} {enc : α → Value} {ok : α → Prop}

/-- D holds m. -/
def KD (P : Program) (k : TypeId) (enc : α → Value) (D : DataW Value) (m : α → Option Value) : Prop := ∀ x kl, keyOf P k (enc x) = some kl → Maps.has D kl = (m x).isSome ∧ ∀ v, m x = some v → ∀ z, D.atKey kl z = .held v
/-- Block b is a map of at most n entries, that holds m. -/
def KM (P : Program) (k : TypeId) (enc : α → Value) (w : World) (b n : Nat) (m : α → Option Value) : Prop := ∃ D : DataW Value, w.ownsMap P k hvR b n D ∧ KD P k enc D m

theorem KM.kept {w w' : World} {b n : Nat} {m : α → Option Value} {row : Option Nat} (h : KM P k enc w b n m) (hg : w.grownBy w' row) (hne : some b ≠ row) : KM P k enc w' b n m := by
  obtain ⟨D, ho, hD⟩ := h; exact ⟨D, ho.kept hg hne, hD⟩
theorem KM.more {w : World} {b n n' : Nat} {m : α → Option Value} (h : KM P k enc w b n m) (hn : n ≤ n') : KM P k enc w b n' m := by
  obtain ⟨D, ho, hD⟩ := h; exact ⟨D, ho.mono hn, hD⟩
theorem KM.lt {w : World} {b n : Nat} {m : α → Option Value} (h : KM P k enc w b n m) : b < w.heap.size := by obtain ⟨D, ho, _⟩ := h; exact ho.lt
theorem KM.made (P : Program) (k : TypeId) (enc : α → Value) (w : World) : KM P k enc (w.alloc (.map #[] 0)) w.heap.size 0 (fun _ => none) :=
  ⟨.map [], World.ownsMap_made _ _ _ _, fun x kl _ => ⟨by simp [Maps.has], fun c h => by cases h⟩⟩
theorem KM.keepB {w w' : World} {b n B : Nat} {m : α → Option Value} (h : KM P k enc w b n m) (hb : Below B w w') (hlt : b < B) : KM P k enc w' b n m := by
  obtain ⟨D, ⟨es, clock, h1, h2⟩, hD⟩ := h
  exact ⟨D, ⟨es, clock, (hb.block b hlt).trans h1, h2⟩, hD⟩
theorem KM.block {w w' : World} {b n : Nat} {m : α → Option Value} (h : KM P k enc w b n m) (hb : w'.heap[b]? = w.heap[b]?) : KM P k enc w' b n m := by
  obtain ⟨D, ⟨es, clock, h1, h2⟩, hD⟩ := h
  exact ⟨D, ⟨es, clock, hb.trans h1, h2⟩, hD⟩
theorem KM.setCell {w : World} {b n : Nat} {m : α → Option Value} (h : KM P k enc w b n m) (b' o' : Nat) (hne : b ≠ b') (u : Value) : KM P k enc (w.setCell ⟨b', o', none⟩ u) b n m := by
  obtain ⟨D, ho, hD⟩ := h; exact ⟨D, ho.setCell hne u, hD⟩

def updK [DecidableEq α] (m : α → Option Value) (x : α) (c : Value) : α → Option Value := fun y => if y = x then some c else m y

theorem kd_atKey {D : DataW Value} {kl : Lit} {m : Option Value} {v z : Value} {ps : List MemPlace} (h1 : Maps.has D kl = m.isSome) (h2 : ∀ c, m = some c → ∀ z, D.atKey kl z = .held c) (h : hvR v = some (D.atKey kl (.held z), ps)) : v = m.getD z := by
  unfold hvR at h
  simp only [Option.some.injEq, Prod.mk.injEq] at h
  cases m with
  | none =>
    rw [Maps.atKey_of_not_has (by rw [h1]; rfl)] at h
    simpa using h.1
  | some c =>
    rw [h2 c rfl] at h
    simpa using h.1

variable (w : World) {ops : Array Oper} {rest : List Oper} {o : Oper} {a : Act} {Q : Exit → Act → World → Prop}

/-- 'v, ok := m[x]'. -/
theorem wpList_look_km (K : KeyKind P k enc ok) (hg : o.guard = none) (m x : Operand) (t : TypeId) (hop : o.op = Op.lookup t m x true) (e : TypeId) (ht : P.underlying t = some (.map k e)) {z : Value} (hz : (zeroValue e).run P w = .ok z w) (b n : Nat) (M : α → Option Value) (hm : a.eval m = .map (some b)) (hk : KM P k enc w b n M)
    (y : α) (hx : a.eval x = enc y) (hy : ok y) (v : Value) (r : Bool) (hv : (M y).getD z = v) (hr : (M y).isSome = r)
    (hK : wpList P ops Q rest (a.put o.dst (.tuple #[v, .bool r])) w) : wpList P ops Q (o :: rest) a w := by
  obtain ⟨D, hown, hD⟩ := hk
  obtain ⟨kl, hkl⟩ := K.key y hy
  refine wpList_lookup_own_ok w hg m x _ hop k e K.law ht hvR hz (.held z) [] rfl b n D hm hown (enc y) kl hx hkl ?_
  intro v' ps hv'
  obtain ⟨h1, h2⟩ := hD y kl hkl
  rw [kd_atKey h1 h2 hv', hv, h1, hr]
  exact hK

/-- 'm[x]'. -/
theorem wpList_get_km (K : KeyKind P k enc ok) (hg : o.guard = none) (m x : Operand) (t : TypeId) (hop : o.op = Op.lookup t m x false) (e : TypeId) (ht : P.underlying t = some (.map k e)) {z : Value} (hz : (zeroValue e).run P w = .ok z w) (b n : Nat) (M : α → Option Value) (hm : a.eval m = .map (some b)) (hk : KM P k enc w b n M)
    (y : α) (hx : a.eval x = enc y) (hy : ok y) (v : Value) (hv : (M y).getD z = v)
    (hK : wpList P ops Q rest (a.put o.dst v) w) : wpList P ops Q (o :: rest) a w := by
  obtain ⟨D, hown, hD⟩ := hk
  obtain ⟨kl, hkl⟩ := K.key y hy
  obtain ⟨v', ps, hrun, hv'⟩ := hown.lookup K.law ht hz (zd := .held z) (zp := []) rfl hkl
  obtain ⟨h1, h2⟩ := hD y kl hkl
  have e := kd_atKey h1 h2 hv'
  rw [hv] at e
  subst e
  refine wpList_plain hg fun K' hK' => ?_
  unfold Oper.wp
  simp [execOp, hop, hm, hx, hrun, Result.andThen]
  exact hK' _ _ hK

/-- 'm[x] = v'. -/
theorem wpList_put_km [DecidableEq α] (K : KeyKind P k enc ok) (hg : o.guard = none) (m x v : Operand) (t : TypeId) (hop : o.op = Op.mapUpdate t m x v) (e : TypeId) (ht : P.underlying t = some (.map k e)) (b n : Nat) (M : α → Option Value) (hm : a.eval m = .map (some b)) (hk : KM P k enc w b n M) (hn : n < maxLen)
    (y : α) (c : Value) (hx : a.eval x = enc y) (hv : a.eval v = c) (hy : ok y)
    (hK : ∀ w', KM P k enc w' b (n + 1) (updK M y c) → w.grownBy w' (some b) → w'.heap.size = w.heap.size → wpList P ops Q rest (a.put o.dst undef) w') : wpList P ops Q (o :: rest) a w := by
  obtain ⟨D, hown, hD⟩ := hk
  obtain ⟨kl, hkl⟩ := K.key y hy
  refine wpList_mapUpdate_in w hg m x v _ hop k e K.law ht hvR b n D hm hown hn (enc y) c kl hx hv hkl (.held c) [] rfl ?_
  intro w' h1 h2
  refine hK w' ⟨_, h1, fun y' kl' hk' => ?_⟩ h2.grown (by obtain ⟨es, cl, es', cl', _, rfl⟩ := h2; simp [ChangeMaps.setBlock])
  by_cases e : y' = y
  · subst e
    obtain rfl : kl' = kl := by rw [hkl] at hk'; exact (Option.some.inj hk').symm
    have hu : updK M y' c y' = some c := by simp [updK]
    rw [hu]
    refine ⟨Maps.has_put_same hown.isMap (K.law.key hkl) _, fun c' hc' z => ?_⟩
    cases hc'
    exact Maps.atKey_put_same hown.isMap (K.law.key hkl) _ z
  · have hne : kl' ≠ kl := fun e2 => e (K.inj _ _ (K.law.inj hk' (by rw [e2]; exact hkl)))
    have hu : updK M y c y' = M y' := by simp [updK, e]
    rw [hu, Maps.has_put_other hne]
    refine ⟨(hD y' kl' hk').1, fun c' hc' z => ?_⟩
    rw [Maps.atKey_put_other hne]
    exact (hD y' kl' hk').2 c' hc' z

/-- 'for x, v := range m' under way: those that are done have come. -/
def KR (P : Program) (k : TypeId) (enc : α → Value) (w : World) (b r n : Nat) (m : α → Option Value) (done : α → Prop) (cnt : Nat) : Prop :=
  ∃ (D : DataW Value) (left : Lit → Bool), w.ranges P k hvR b r n D left cnt ∧ KD P k enc D m ∧ ∀ x kl, keyOf P k (enc x) = some kl → (left kl = true ↔ (m x).isSome = true ∧ ¬ done x)
theorem KR.kept {w w' : World} {b r n cnt : Nat} {m : α → Option Value} {done : α → Prop} {row : Option Nat} (h : KR P k enc w b r n m done cnt) (hg : w.grownBy w' row) (hb : some b ≠ row) (hr : some r ≠ row) : KR P k enc w' b r n m done cnt := by
  obtain ⟨D, left, h1, h2, h3⟩ := h; exact ⟨D, left, h1.kept hg hb hr, h2, h3⟩
theorem KR.block {w w' : World} {b r n cnt : Nat} {m : α → Option Value} {done : α → Prop} (h : KR P k enc w b r n m done cnt) (hb : w'.heap[b]? = w.heap[b]?) (hr : w'.heap[r]? = w.heap[r]?) : KR P k enc w' b r n m done cnt := by
  obtain ⟨D, left, ⟨es, clock, since, seen, c0, x1, x2, x3, x4, x5, x6⟩, h2, h3⟩ := h
  exact ⟨D, left, ⟨es, clock, since, seen, c0, hb.trans x1, x2, x3, x4, hr.trans x5, x6⟩, h2, h3⟩
theorem KR.left {w : World} {b r n cnt : Nat} {m : α → Option Value} {done : α → Prop} (h : KR P k enc w b r n m done cnt) : w.rangeLeft b r = cnt := by
  obtain ⟨D, left, h1, _⟩ := h; exact h1.left_eq
theorem KR.owns {w : World} {b r n cnt : Nat} {m : α → Option Value} {done : α → Prop} (h : KR P k enc w b r n m done cnt) : KM P k enc w b n m := by
  obtain ⟨D, left, h1, h2, _⟩ := h; exact ⟨D, h1.owns, h2⟩
theorem KR.lt {w : World} {b r n cnt : Nat} {m : α → Option Value} {done : α → Prop} (h : KR P k enc w b r n m done cnt) : r < w.heap.size := by
  obtain ⟨D, left, h1, _⟩ := h; exact h1.lt
theorem KR.ne {w : World} {b r n cnt : Nat} {m : α → Option Value} {done : α → Prop} (h : KR P k enc w b r n m done cnt) : r ≠ b := by
  obtain ⟨D, left, h1, _⟩ := h; exact h1.ne

theorem wpList_range_km (K : KeyKind P k enc ok) (hg : o.guard = none) (m : Operand) (t : TypeId) (hop : o.op = Op.range t m) (e : TypeId) (ht : P.underlying t = some (.map k e)) (b n : Nat) (M : α → Option Value) (hm : a.eval m = .map (some b)) (hk : KM P k enc w b n M)
    (hK : ∀ w' cnt, KR P k enc w' b w.heap.size n M (fun _ => False) cnt → w.grownBy w' none → w'.heap.size = w.heap.size + 1 → wpList P ops Q rest (a.put o.dst (.pointer (some ⟨w.heap.size, 0, none⟩))) w') :
    wpList P ops Q (o :: rest) a w := by
  obtain ⟨D, hown, hD⟩ := hk
  refine wpList_range_own w hg m t hop k e K.law ht hvR b n D hm hown ?_
  intro w' h1 h2 h3
  exact hK w' _ ⟨D, _, h1, hD, fun x kl hkl => by rw [(hD x kl hkl).1]; simp⟩ h2 h3

theorem wpList_next_km (K : KeyKind P k enc ok) (hg : o.guard = none) (it : Operand) (hop : o.op = Op.next it false) (b r n : Nat) (M : α → Option Value) (done : α → Prop) (cnt : Nat) (hit : a.eval it = .pointer (some ⟨r, 0, none⟩)) (h : KR P k enc w b r n M done cnt)
    (hDone : (∀ x, ok x → (M x).isSome = true → done x) → wpList P ops Q rest (a.put o.dst (.tuple #[.bool false])) w)
    (hMore : ∀ (x : α) (v : Value) (w' : World) (cnt' : Nat), ok x → M x = some v → ¬ done x → KR P k enc w' b r n M (fun y => done y ∨ y = x) cnt' → cnt' < cnt → w.grownBy w' (some r) → w'.heap.size = w.heap.size →
      (Instr.entry (.pointer (some ⟨r, 0, none⟩))).run P w' = .ok (.tuple #[enc x, v]) w' → wpList P ops Q rest (a.put o.dst (.tuple #[.bool true, enc x, v])) w') :
    wpList P ops Q (o :: rest) a w := by
  obtain ⟨D, left, hr, hD, hl⟩ := h
  refine wpList_next_ranges w hg it hop k K.law hvR (α := {x : α // ok x}) (fun x => enc x.1) (fun v : Value => v) (fun key kl hkey => by obtain ⟨x, rfl, hx⟩ := K.inv key kl hkey; exact ⟨⟨x, hx⟩, rfl⟩) (fun v _ _ => ⟨v, rfl⟩) b r n D left cnt hit hr ?_ ?_
  · intro _ hf
    refine hDone fun x hx hs => ?_
    obtain ⟨kl, hkl⟩ := K.key x hx
    by_cases hd : done x
    · exact hd
    · have := (hl x kl hkl).2 ⟨hs, hd⟩
      rw [hf kl] at this; cases this
  · intro x v kl y w' cnt' hkl hlk hv hat hrg hlt hgr hsz hen
    obtain ⟨hs, hnd⟩ := (hl x.1 kl hkl).1 hlk
    obtain ⟨v', hv'⟩ := Option.isSome_iff_exists.1 hs
    have e : v = v' := by
      have h2 := (hD x.1 kl hkl).2 v' hv' (.held v)
      rw [hat (.held v)] at h2
      unfold hvR at hv
      simp only [Option.some.injEq] at hv
      rw [← hv] at h2
      simpa using h2
    subst e
    refine hMore x.1 v w' cnt' x.2 hv' hnd ⟨D, _, hrg, hD, fun z kl' hkl' => ?_⟩ hlt hgr hsz hen
    by_cases e : z = x.1
    · subst e
      obtain rfl : kl' = kl := by rw [hkl] at hkl'; exact (Option.some.inj hkl').symm
      rw [WideAt.sameKey_self (K.law.key hkl)]
      simp
    · have hne : kl' ≠ kl := fun e2 => e (K.inj _ _ (K.law.inj hkl' (by rw [e2]; exact hkl)))
      rw [Maps.sameKey_ne hne]
      simp only [Bool.not_false, Bool.and_true]
      rw [hl z kl' hkl']
      simp [e]
end

/-! ### strings as keys -/
theorem kStr : KeyKind Try.prog 9 Value.string (fun s : ByteArray => s.size ≤ maxLen) where
  law := string_keyed Try.underlying9
  key x hx := ⟨_, WideMaps.keyOf_string_mk Try.underlying9 hx⟩
  inv v kl h := by
    cases v <;> simp [keyOf, Try.underlying9, mapKey] at h
    exact ⟨_, rfl, h.1⟩
  inj x y h := by simpa using h
end Go.Proofs.Ytjmpakpodhbbpaa
