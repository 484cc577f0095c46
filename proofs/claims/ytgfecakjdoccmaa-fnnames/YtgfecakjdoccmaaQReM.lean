/- The states of spec.ReadName in memory. -/
import Derived.Test.YtgfecakjdoccmaaQReN
import Derived.Maps.AppendAt
namespace Go.Proofs.Ytgfecakjdoccmaa
open Go.RowKit

theorem own_grown {w w' : World} {base n e size : Nat} {v : Value} {xs : List Value} {row : Option Nat} (h : w.ownsRow base e size v n xs) (hg : w.grownBy w' row) (hne : ∀ g, v.ownBlock = some g → row ≠ some g) : w'.ownsRow base e size v n xs := by
  refine ⟨h.1, h.2.imp_right ?_⟩
  rintro ⟨g, cap, cur, e', h1, hh, r⟩
  have ho : v.ownBlock = some g := by rw [e']; rfl
  refine ⟨g, cap, cur, e', h1, ?_, r⟩
  rw [hg.block g (h.lt g ho).2 (fun h => hne g ho h.symm)]; exact hh
theorem row_grown {w w' : World} {b : Nat} {C : Array Value} {T : TypeId} {row : Option Nat} (h : RowIs w b C T) (hg : w.grownBy w' row) (hne : row ≠ some b) : RowIs w' b C T := by
  have hl := h.lt
  unfold RowIs at *
  rw [hg.block b hl (fun h => hne h.symm)]; exact h

/-- Where the reader stands: p's box is block B; out and part are owned, from B + 1 on, apart. -/
structure RS (w : World) (v4 v6 : Value) (m : Mach) (w' : World) : Prop where
  box : ∃ x, RowIs w' w.heap.size #[.string ⟨m.attr.toArray⟩, .string x] 55
  out : w'.ownsRow (w.heap.size + 1) 55 2 v4 m.out.length (partsV m.out)
  part : w'.ownsRow (w.heap.size + 1) 5 1 v6 m.part.length (m.part.map byteV)
  apart : ∀ g, v4.ownBlock = some g → v6.ownBlock ≠ some g
  bel : Below w.heap.size w w'
theorem RS.notB {w w' : World} {v4 v6 : Value} {m : Mach} (h : RS w v4 v6 m w') : (∀ g, v4.ownBlock = some g → g ≠ w.heap.size) ∧ ∀ g, v6.ownBlock = some g → g ≠ w.heap.size :=
  ⟨fun g hg => by have := (h.out.lt g hg).1; omega, fun g hg => by have := (h.part.lt g hg).1; omega⟩
theorem RS.lt {w w' : World} {v4 v6 : Value} {m : Mach} (h : RS w v4 v6 m w') : w.heap.size + 1 ≤ w'.heap.size := by
  obtain ⟨x, hx⟩ := h.box
  exact hx.lt
/-- p.Attr = string(part); part = nil. -/
theorem RS.attr {w w' : World} {v4 v6 : Value} {m : Mach} (h : RS w v4 v6 m w') : RS w v4 (.slice none 0 0) ⟨m.out, m.part, [], true⟩ (w'.setCell ⟨w.heap.size, 0, none⟩ (.string ⟨m.part.toArray⟩)) := by
  obtain ⟨x, hx⟩ := h.box
  exact ⟨⟨x, hx.set 0 _⟩, own_setT h.out h.notB.1, World.ownsRow_nil _ _ _ _, fun g _ e => (by cases e), h.bel.setCell (Nat.le_refl _) _⟩
/-- part = append(part, c). -/
theorem RS.byte {w w1 w2 : World} {v4 v6 v6' : Value} {m : Mach} {c : UInt8} {o : Obj} (h : RS w v4 v6 m w1) (hown : w2.ownsRow (w.heap.size + 1) 5 1 v6' (m.part.length + 1) (m.part.map byteV ++ [byteV c])) (hg : (w1.alloc o).grownBy w2 v6.ownBlock)
    (hat : v6'.ownBlock = v6.ownBlock ∨ v6'.ownBlock = some (w1.alloc o).heap.size) : RS w v4 v6' ⟨m.out, m.attr, m.part ++ [c], m.inT⟩ w2 := by
  obtain ⟨x, hx⟩ := h.box
  refine ⟨⟨x, row_grown (hx.keep (bAl (Below.refl _ _) o)) hg (fun e => h.notB.2 _ e rfl)⟩, own_grown (h.out.alloc o) hg h.apart, by simpa using hown, ?_, ?_⟩
  · intro g hg4 e
    rcases hat with hat | hat
    · rw [hat] at e; exact h.apart g hg4 e
    · rw [hat] at e
      have := (h.out.lt g hg4).2
      simp at e
      omega
  · exact (bAl h.bel o).grown hg (by have := h.bel.size; simp; omega) (fun j hj => by have := (h.part.lt j hj).1; omega)
/-- p.Text = string(part); out = append(out, p). -/
theorem RS.push {w w1 w2 : World} {v4 v6 v4' : Value} {m : Mach} {o : Obj} (h : RS w v4 v6 m w1) (hown : w2.ownsRow (w.heap.size + 1) 55 2 v4' (m.out.length + 1) (partsV m.out ++ [.string ⟨m.attr.toArray⟩, .string ⟨m.part.toArray⟩]))
    (hg : ((w1.setCell ⟨w.heap.size, 1, none⟩ (.string ⟨m.part.toArray⟩)).alloc o).grownBy w2 v4.ownBlock) : RS w v4' (.slice none 0 0) ⟨m.toOut, m.attr, [], false⟩ w2 := by
  obtain ⟨x, hx⟩ := h.box
  have hx2 : RowIs (w1.setCell ⟨w.heap.size, 1, none⟩ (.string ⟨m.part.toArray⟩)) w.heap.size #[.string ⟨m.attr.toArray⟩, .string ⟨m.part.toArray⟩] 55 := hx.set 1 _
  have hb2 : Below w.heap.size w (w1.setCell ⟨w.heap.size, 1, none⟩ (.string ⟨m.part.toArray⟩)) := h.bel.setCell (Nat.le_refl _) _
  refine ⟨⟨_, row_grown (hx2.keep (bAl (Below.refl _ _) o)) hg (fun e => h.notB.1 _ e rfl)⟩, ?_, World.ownsRow_nil _ _ _ _, fun g _ e => (by cases e), ?_⟩
  · show w2.ownsRow _ _ _ _ (m.out ++ [_]).length (partsV (m.out ++ [_]))
    rw [partsV_snoc, List.length_append]; exact hown
  · exact (bAl hb2 o).grown hg (by have := hb2.size; simp at this ⊢; omega) (fun j hj => by have := (h.out.lt j hj).1; omega)

theorem mach_of {l : List PartT} {s : ByteArray} (h : dirB l = true) (e : nameT l = s) (h1 : ¬ s.size < 1) : ∃ m, mach ⟨[], [], [], false⟩ s.data.toList = some m ∧ m.inT = true ∧ m.toOut = l := by
  rw [nameT_list h e]
  obtain ⟨m, a, b, c⟩ := mach_text l [] [] (by
    rintro rfl
    rw [← e] at h1
    exact h1 (by decide)) (dirB_parts h).2
  exact ⟨m, a, b, by rw [c]; rfl⟩
theorem name_short {l : List PartT} {s : ByteArray} (h : dirB l = true) (e : nameT l = s) : s.size ≤ 1696 := by
  have h1 := inter_len (l.map ptext) (fun x hx => by
    obtain ⟨q, hq, rfl⟩ := List.mem_map.1 hx
    exact ptext_len ((dirB_parts h).2 q hq))
  have h2 := (dirB_parts h).1
  have l1 : s.data.toList.length = s.size := by simp
  rw [nameT_list h e] at l1
  unfold nameL' at l1
  rw [l1, List.length_map] at h1
  omega
end Go.Proofs.Ytgfecakjdoccmaa
