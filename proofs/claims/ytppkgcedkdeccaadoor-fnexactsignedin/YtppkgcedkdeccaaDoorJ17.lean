/- WCmp, KWa, GBase, one behind the other. -/
import Derived.Test.YtppkgcedkdeccaaDoorJ16
import Derived.Test.YtppkgcedkdeccaaDoorJ6
import Derived.Test.YtppkgcedkdeccaaDoorJ14
import Derived.Test.YtppkgcedkdeccaaDoorJ5
import Derived.BigQuiet
import Derived.Lib.Bytealg
import Derived.Laws.Externs
import Derived.Test.YtppkgcedkdeccaaDoorJ8
import Derived.WalkSmall
import Derived.OwnWalk
import Derived.Maps.AppendAt
/- WCmp, ported from seat 1a. -/
namespace Go.Proofs.YtppkgcedkdeccaaDoor.V
open Go.RowKit

theorem bne_zero {c : Int} (h : ¬ c = 0) : (c != 0) = true := by simpa using h

def orFrom (v0 v1 v2 v3 : Int) : Nat → Int
  | 0 => orI v0 (orI v1 (orI v2 v3))
  | 1 => orI v1 (orI v2 v3)
  | 2 => orI v2 v3
  | 3 => v3
  | _ => 0
theorem orI_zero (b : Int) : orI 0 b = b := by unfold orI; rw [if_pos rfl]
theorem orI_not {a : Int} (h : ¬ a = 0) (b : Int) : orI a b = a := by unfold orI; rw [if_neg h]

end Go.Proofs.YtppkgcedkdeccaaDoor.V
/- Lists of texts on both sides. -/
namespace Go.Proofs.YtppkgcedkdeccaaDoor.V
set_option linter.unusedSimpArgs false
set_option linter.unusedVariables false
set_option maxRecDepth 20000
open Go.RowKit

def RetB (e : Ending) (p : Prop) : Prop := ∃ b : Bool, e = .returned (.bool b) ∧ (b = true ↔ p)
theorem retB {b : Bool} {p : Prop} (h : b = true ↔ p) : RetB (.returned (.bool b)) p := ⟨b, rfl, h⟩
theorem str_neY {a b : ByteArray} (h : ¬ a = b) : (ByteArray.toList a == ByteArray.toList b) = false := by
  have : ¬ a.toList = b.toList := fun e => h (by
    rw [ByteArray.toList_eq, ByteArray.toList_eq] at e
    exact Go.WideShapes.bytes_inj e)
  simpa using this
theorem str_eqY (a : ByteArray) : (ByteArray.toList a == ByteArray.toList a) = true := by simp

set_option maxHeartbeats 400000 in
theorem l3Has_anyY (a : Option Addr) (len cap : Nat) (l : List ByteArray) (s : ByteArray) (w : World) (hl : len ≤ 1000000) (hs : SlS w a len l) :
    Calls Tryd.prog 48 #[.slice a len cap, .string s] w fun e w' => RetB e (s ∈ l) ∧ w = w' := by
  have HS := hide hs
  clear hs
  go_enter Tryd.func48, Tryd.ntmps48
  go_wp2_with fail
  go_loopw [9] (fun i wx => ∃ k : Nat, k ≤ len ∧ i = .int .i64 k ∧ Hid (¬ s ∈ l.take k) ∧ wx = w) (fun i _ => len - (Go.RowKit.intOf i).toNat)
  case atStart => exact ⟨0, Nat.zero_le _, rfl, hide (by simp), rfl⟩
  case round =>
    obtain ⟨k, hk, rfl, hn, rfl⟩ := hrel
    by_cases hlt : k < len
    · have hk' : k < l.length := by rw [← (unhide HS).1]; exact hlt
      obtain ⟨b, off, rfl, hrow⟩ := (unhide HS).at hlt
      have c0 := hrow.c k hk'
      have zk := hrow.z
      have eY : Hid (l[k] = s → s ∈ l) := hide (fun e => e ▸ List.getElem_mem hk')
      have eN : Hid (¬ l[k] = s → ¬ s ∈ l.take (k + 1)) := hide (fun e h => by
        rw [List.take_succ_eq_append_getElem hk', List.mem_append, List.mem_singleton] at h
        rcases h with h | h
        · exact unhide hn h
        · exact e h.symm)
      clear hrow
      generalize l[k] = A at c0 eY eN
      by_cases he : A = s
      · replace eY := hide (unhide eY he)
        subst he
        clear eN
        go_wp2_with fail
        go_ret
        exact ⟨retB (b := true) ⟨fun _ => unhide eY, fun _ => rfl⟩, rfl⟩
      · replace eN := hide (unhide eN he)
        have hne := str_neY he
        clear eY he
        go_wp2_with fail
        exact ⟨⟨k + 1, by omega, by go_num, eN, trivial⟩, by simp [Go.RowKit.intOf]; omega⟩
    · have hN : Hid (¬ s ∈ l) := hide (fun h => unhide hn (by rw [List.take_of_length_le (by have := (unhide HS).1; omega)]; exact h))
      go_wp2_with fail
      go_ret
      exact ⟨retB (b := false) ⟨fun h => (by cases h), fun h => absurd h (unhide hN)⟩, rfl⟩
theorem compareBytes_eq : ∀ a b : List UInt8, Lib.compareBytes a b = cmpT a b
  | [], [] => rfl
  | [], _ :: _ => rfl
  | _ :: _, [] => rfl
  | a :: x, b :: y => by
    unfold Lib.compareBytes cmpT
    by_cases e : a = b
    · subst e
      rw [if_neg (by simp), if_neg (by simp), if_pos rfl]
      exact compareBytes_eq x y
    · rw [if_neg e]
      unfold cmpN
      by_cases l : a < b
      · have l' : (a.toNat : Int) < (b.toNat : Int) := by have := UInt8.lt_iff_toNat_lt.1 l; omega
        rw [if_pos l, if_pos l']
      · have l' : ¬ (a.toNat : Int) < (b.toNat : Int) := fun h => l (UInt8.lt_iff_toNat_lt.2 (by omega))
        have l2 : (b.toNat : Int) < (a.toNat : Int) := by
          have : ¬ (a.toNat : Int) = (b.toNat : Int) := fun h => e (u8_eq h)
          omega
        rw [if_neg l, if_pos (UInt8.lt_iff_toNat_lt.2 (by omega)), if_neg l', if_pos l2]

end Go.Proofs.YtppkgcedkdeccaaDoor.V
/- Rows that are owned, kept, appended to; blocks that grow. -/
namespace Go.Proofs.YtppkgcedkdeccaaDoor
open Go.RowKit

theorem cell_two_at (W : World) (n : Nat) (hn : n = W.heap.size) (a b : Value) (t : TypeId) : ∀ j u, [a, b][j]? = some u → (W.alloc (.cells #[a, b] t)).cell? ((⟨n, 0, none⟩ : Addr).add j) = some u := by
  subst hn; exact cell_two_new W a b t
theorem cell_one_at (W : World) (n : Nat) (hn : n = W.heap.size) (a : Value) (t : TypeId) : ∀ j u, [a][j]? = some u → (W.alloc (.cells #[a] t)).cell? ((⟨n, 0, none⟩ : Addr).add j) = some u := by
  subst hn; exact cell_one_new W a t
theorem own_keepB {B : Nat} {w w' : World} {base n e size : Nat} {v : Value} {xs : List Value} (h : w.ownsRow base e size v n xs) (hb : Below B w w') (hlt : ∀ g, v.ownBlock = some g → g < B) : w'.ownsRow base e size v n xs := by
  refine ⟨h.1, h.2.imp_right ?_⟩
  rintro ⟨g, cap, cur, e', h1, hh, r⟩
  have ho : v.ownBlock = some g := by rw [e']; rfl
  refine ⟨g, cap, cur, e', h1, ?_, r⟩
  rw [hb.block g (hlt g ho)]; exact hh
theorem own_keep {w w' : World} {base n e size : Nat} {v : Value} {xs : List Value} (h : w.ownsRow base e size v n xs) (hb : Below w.heap.size w w') : w'.ownsRow base e size v n xs :=
  own_keepB h hb fun g e => (h.lt g e).2
theorem below_append {w x y : World} {v : Value} {n : Nat} {xs : List Value} {base e size : Nat} {o : Obj} (hB : Below w.heap.size w x) (hz : w.heap.size ≤ base) (ho : x.ownsRow base e size v n xs) (hg : (x.alloc o).grownBy y v.ownBlock) : Below w.heap.size w y :=
  (hB.alloc hB.size o).grown hg (by have := hB.size; simp; omega) (fun k hk => by have := (ho.lt k hk).1; omega)
theorem bSet {w w' : World} (h : Below w.heap.size w w') (b o : Nat) (hb : w.heap.size ≤ b) (v : Value) : Below w.heap.size w (w'.setCell ⟨b, o, none⟩ v) := h.setCell hb v
theorem own_ne {v u : Value} {A B : Nat} (h1 : ∀ g, v.ownBlock = some g → g < A) (h2 : ∀ g, u.ownBlock = some g → B ≤ g) (h : A ≤ B) : v.ownBlock = none ∨ v.ownBlock ≠ u.ownBlock := by
  cases hv : v.ownBlock with
  | none => exact .inl rfl
  | some g => exact .inr fun e => by have := h1 g hv; have := h2 g e.symm; omega
theorem row_grown {w w' : World} {b : Nat} {C : Array Value} {T : TypeId} {row : Option Nat} (h : RowIs w b C T) (hg : w.grownBy w' row) (hne : some b ≠ row) : RowIs w' b C T := by
  have hl := h.lt
  unfold RowIs at *; rw [hg.block b hl hne]; exact h
def DJ (v u : Value) : Prop := ∀ g h, v.ownBlock = some g → u.ownBlock = some h → g ≠ h
theorem DJ.of {v u : Value} {B : Nat} (h1 : ∀ g, v.ownBlock = some g → g < B) (h2 : ∀ g, u.ownBlock = some g → B ≤ g) : DJ v u := fun g h e1 e2 e => by
  have := h1 g e1; have := h2 h e2; omega
theorem DJ.ne {v u : Value} (h : DJ v u) : u.ownBlock = none ∨ u.ownBlock ≠ v.ownBlock := by
  cases hu : u.ownBlock with
  | none => exact .inl rfl
  | some g => exact .inr fun e => h g g e.symm hu rfl
theorem DJ.ne' {v u : Value} (h : DJ v u) : v.ownBlock = none ∨ v.ownBlock ≠ u.ownBlock := by
  cases hv : v.ownBlock with
  | none => exact .inl rfl
  | some g => exact .inr fun e => h g g hv e.symm rfl
theorem dj_nil (v : Value) : DJ (.slice none 0 0) v := fun g _ h _ => by simp [Value.ownBlock] at h
/-- What is owned by a slice of strings. -/
theorem own_strs {w : World} {base : Nat} {v : Value} {l : List ByteArray} (h : w.ownsRow base 9 1 v l.length (l.map Value.string)) : ∃ a cap, v = .slice a l.length cap ∧ SlS w a l.length l := by
  rcases h.2 with ⟨rfl, e⟩ | ⟨g, cap, cur, rfl, _, hh, _, _, hsz, htk⟩
  · have : l = [] := List.length_eq_zero_iff.1 e
    subst this
    exact ⟨none, 0, rfl, rfl, .inl rfl⟩
  · have hr : RowIs w g cur 9 := hh
    refine ⟨_, _, rfl, rfl, .inr ⟨g, 0, rfl, hr.lt, fun i hi => ?_⟩⟩
    rw [Nat.zero_add, hr.cell, ← Array.getElem?_toList]
    have : (cur.toList.take (l.length * 1))[i]? = some (.string l[i]) := by rw [htk]; simp [hi]
    rw [List.getElem?_take] at this
    split at this
    · exact this
    · cases this
theorem info_str : (Tryd.prog.info? 9).map (fun i => (i.zero, i.size, i.bytes)) = some (some (.string ByteArray.empty), 1, 16) := by kernel_rfl
end Go.Proofs.YtppkgcedkdeccaaDoor
