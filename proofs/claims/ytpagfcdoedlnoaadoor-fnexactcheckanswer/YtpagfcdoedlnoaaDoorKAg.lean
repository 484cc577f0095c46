/- What is kept from call to call in the law of CheckAnswer. -/
import Derived.Test.YtpagfcdoedlnoaaDoorKAf
namespace Go.Proofs.YtpagfcdoedlnoaaDoor.D
set_option maxRecDepth 20000
open Go.RowKit
/-- What the law knows of a world: the two boxes of its arguments, the copies of the challenge, the box of the first answer. -/
structure Ev (w : World) (x : ShT) (l : List UInt8) (gs : List Nat) (bs : List (Nat × Value × Value × Value)) (W : World) : Prop where
  k : RowIs W w.heap.size #[.int .i64 x.P, .string x.ko, .int .i64 x.kc] 33
  a : RowIs W (w.heap.size + 1) #[.string x.o, .int .i64 x.n, .int .i64 x.r, .int .i64 x.z] 36
  g : ∀ g ∈ gs, SlB W W.heap.size (some ⟨g, 0, none⟩) x.len l
  b : ∀ y ∈ bs, RowIs W y.1 #[y.2.1, y.2.2.1, y.2.2.2] 39
  B : Below w.heap.size w W
  hi : ∀ y ∈ bs, w.heap.size + 1 < y.1
  d : bs.Pairwise fun y y' => y.1 ≠ y'.1
theorem Ev.keep {w : World} {x : ShT} {l : List UInt8} {gs : List Nat} {bs : List (Nat × Value × Value × Value)} {W W' : World} (h : Ev w x l gs bs W) (hb : Below W.heap.size W W') : Ev w x l gs bs W' :=
  ⟨h.k.keep hb, h.a.keep hb, fun g hg => ((h.g g hg).keep hb).mono hb.size, fun y hy => (h.b y hy).keep hb, bTr h.B hb, h.hi, h.d⟩
theorem Ev.al {w : World} {x : ShT} {l : List UInt8} {gs : List Nat} {bs : List (Nat × Value × Value × Value)} {W : World} (h : Ev w x l gs bs W) (o : Obj) : Ev w x l gs bs (W.alloc o) := h.keep (bAl (Below.refl _ _) o)
theorem Ev.alB {w : World} {x : ShT} {l : List UInt8} {gs : List Nat} {bs : List (Nat × Value × Value × Value)} {W : World} (h : Ev w x l gs bs W) (u v z : Value) : Ev w x l gs ((W.heap.size, u, v, z) :: bs) (W.alloc (.cells #[u, v, z] 39)) :=
  ⟨(h.al _).k, (h.al _).a, (h.al _).g, fun y hy => by
    rcases List.mem_cons.1 hy with rfl | hy
    · exact RowIs.new _ _ _
    · exact (h.al _).b y hy, (h.al _).B, fun y hy => by
    rcases List.mem_cons.1 hy with rfl | hy
    · exact h.a.lt
    · exact h.hi y hy, List.pairwise_cons.2 ⟨fun y hy => Nat.ne_of_gt (h.b y hy).lt, h.d⟩⟩
theorem Ev.box {w : World} {x : ShT} {l : List UInt8} {gs : List Nat} {bs : List (Nat × Value × Value × Value)} {W : World} {g : Nat} {u v z : Value} (h : Ev w x l gs ((g, u, v, z) :: bs) W) :
    W.cell? ⟨g, 0, none⟩ = some u ∧ W.cell? ⟨g, 1, none⟩ = some v ∧ W.cell? ⟨g, 2, none⟩ = some z ∧ W.frozen? ⟨g, 0, none⟩ = false ∧ W.frozen? ⟨g, 1, none⟩ = false ∧ W.frozen? ⟨g, 2, none⟩ = false ∧ g < W.heap.size :=
  have r := h.b _ (List.mem_cons_self ..)
  ⟨r.at rfl, r.at rfl, r.at rfl, r.froz 0, r.froz 1, r.froz 2, r.lt⟩
theorem Ev.dr {w : World} {x : ShT} {l : List UInt8} {gs : List Nat} {bs : List (Nat × Value × Value × Value)} {W : World} (h : Ev w x l gs bs W) : Ev w x l gs bs W.drew := h.keep (Below.refl _ _).drew
theorem Ev.cells {w : World} {x : ShT} {l : List UInt8} {gs : List Nat} {bs : List (Nat × Value × Value × Value)} {W : World} (h : Ev w x l gs bs W) :
    (W.cell? ⟨w.heap.size, 0, none⟩ = some (.int .i64 x.P) ∧ W.cell? ⟨w.heap.size, 1, none⟩ = some (.string x.ko) ∧ W.cell? ⟨w.heap.size, 2, none⟩ = some (.int .i64 x.kc)) ∧ W.cell? ⟨w.heap.size + 1, 0, none⟩ = some (.string x.o) ∧ W.cell? ⟨w.heap.size + 1, 1, none⟩ = some (.int .i64 x.n) ∧ W.cell? ⟨w.heap.size + 1, 2, none⟩ = some (.int .i64 x.r) ∧ W.cell? ⟨w.heap.size + 1, 3, none⟩ = some (.int .i64 x.z) :=
  ⟨⟨h.k.at rfl, h.k.at rfl, h.k.at rfl⟩, h.a.at rfl, h.a.at rfl, h.a.at rfl, h.a.at rfl⟩
theorem toHardKey_ev {w : World} {x : ShT} {l : List UInt8} {gs : List Nat} {bs : List (Nat × Value × Value × Value)} {W : World} (h : Ev w x l gs bs W) :
    Calls Tryd.prog 13 #[.agg #[.int .i64 x.P, .string x.ko, .int .i64 x.kc]] W fun e w' => e = .returned (.agg #[.int .i64 x.P, .string x.ko, .int .i64 x.kc]) ∧ Ev w x l gs bs w' :=
  (toHardKey_any x.P x.kc x.ko W).mono fun _ _ ⟨h1, h2⟩ => ⟨h1, h.keep h2⟩
theorem toAnswer_ev {w : World} {x : ShT} {l : List UInt8} {gs : List Nat} {bs : List (Nat × Value × Value × Value)} {W : World} (h : Ev w x l gs bs W) :
    Calls Tryd.prog 14 #[.agg #[.string x.o, .int .i64 x.n, .int .i64 x.r, .int .i64 x.z]] W fun e w' => e = .returned (.agg #[.string x.o, .int .i64 x.n, .int .i64 x.r, .int .i64 x.z]) ∧ Ev w x l gs bs w' :=
  (toAnswer_any x.o x.n x.r x.z W).mono fun _ _ ⟨h1, h2⟩ => ⟨h1, h.keep h2⟩
theorem Ev.more {w : World} {x : ShT} {l : List UInt8} {gs : List Nat} {bs : List (Nat × Value × Value × Value)} {W : World} {g : Nat} (h : Ev w x l gs bs W) (hg : SlB W W.heap.size (some ⟨g, 0, none⟩) x.len l) : Ev w x l (g :: gs) bs W :=
  ⟨h.k, h.a, fun y hy => by
    rcases List.mem_cons.1 hy with rfl | hy
    · exact hg
    · exact h.g y hy, h.b, h.B, h.hi, h.d⟩
theorem toByteS_ev {w : World} {x : ShT} {l : List UInt8} {gs : List Nat} {bs : List (Nat × Value × Value × Value)} {W : World} (h : Ev w x l gs bs W) (hl : x.len ≤ 1048576) (hs : SlB w w.heap.size x.a x.len l) :
    Calls Tryd.prog 6 #[.slice x.a x.len x.cap] W fun e w' => (∃ g, e = .returned (.slice (some ⟨g, 0, none⟩) x.len x.len) ∧ Ev w x l (g :: gs) bs w') :=
  (toByteS_any x.a x.len x.cap l W hl ((hs.keepB h.B).mono h.B.size)).mono fun _ w' ⟨h1, h2, h3⟩ =>
    ⟨W.heap.size, h1, (h.keep h3).more (by have := slB_row h2 h2.lt; rw [← hs.1] at this; exact this)⟩
theorem sCheck_ev {w : World} {x : ShT} {l : List UInt8} {g : Nat} {gs : List Nat} {bs : List (Nat × Value × Value × Value)} {pb vb : Bool} {W : World} (h : Ev w x l (g :: gs) bs W) (hp : PubIs x.P pb) (hv : GoodV x l vb) :
    Calls Tryd.prog 12 #[.agg #[.int .i64 x.P, .string x.ko, .int .i64 x.kc], .slice (some ⟨g, 0, none⟩) x.len x.len, .agg #[.string x.o, .int .i64 x.n, .int .i64 x.r, .int .i64 x.z]] W fun e w' => e = .returned (.tuple #[outA x (ckA x pb vb), .int .i64 (ckA x pb vb)]) ∧ Ev w x l (g :: gs) bs w' :=
  (sCheckAnswer_any ⟨x.o, x.n, x.r, x.z, x.P, x.ko, x.kc, some ⟨g, 0, none⟩, x.len, x.len⟩ l pb vb W hp hv (h.g g (List.mem_cons_self ..))).mono fun _ _ ⟨h1, h2⟩ => ⟨h1, h.keep h2⟩
theorem iCheck_ev {w : World} {x : ShT} {l : List UInt8} {g : Nat} {gs : List Nat} {bs : List (Nat × Value × Value × Value)} {pb vb : Bool} {W : World} (h : Ev w x l (g :: gs) bs W) (hp : PubIs x.P pb) (hv : GoodV x l vb) (hM : Mults w) :
    Calls Tryd.prog 15 #[.agg #[.int .i64 x.P, .string x.ko, .int .i64 x.kc], .slice (some ⟨g, 0, none⟩) x.len x.len, .agg #[.string x.o, .int .i64 x.n, .int .i64 x.r, .int .i64 x.z]] W fun e w' => e = .returned (.tuple #[outA x (ckA x pb vb), .int .i64 (ckA x pb vb)]) ∧ Ev w x l (g :: gs) bs w' :=
  (iCheckAnswer_any ⟨x.o, x.n, x.r, x.z, x.P, x.ko, x.kc, some ⟨g, 0, none⟩, x.len, x.len⟩ l pb vb W hp hv (h.g g (List.mem_cons_self ..)) (hM.keepB h.B hM.1)).mono fun _ _ ⟨h1, h2⟩ => ⟨h1, h.keep h2⟩
theorem Ev.two {w : World} {x : ShT} {l : List UInt8} {gs : List Nat} {bs : List (Nat × Value × Value × Value)} {W : World} {g g' : Nat} {u v z u' v' z' : Value} (h : Ev w x l gs ((g, u, v, z) :: (g', u', v', z') :: bs) W) :
    (W.cell? ⟨g, 0, none⟩ = some u ∧ W.cell? ⟨g, 1, none⟩ = some v ∧ W.cell? ⟨g, 2, none⟩ = some z ∧ g < W.heap.size) ∧ W.cell? ⟨g', 0, none⟩ = some u' ∧ W.cell? ⟨g', 1, none⟩ = some v' ∧ W.cell? ⟨g', 2, none⟩ = some z' ∧ g' < W.heap.size :=
  have r := h.b _ (List.mem_cons_self ..)
  have q := h.b _ (List.mem_cons_of_mem _ (List.mem_cons_self ..))
  ⟨⟨r.at rfl, r.at rfl, r.at rfl, r.lt⟩, q.at rfl, q.at rfl, q.at rfl, q.lt⟩
theorem eqHardKey_ev {w : World} {x : ShT} {l : List UInt8} {gs : List Nat} {bs : List (Nat × Value × Value × Value)} {p c : Int} {o : ByteArray} {W : World} (h : Ev w x l gs bs W) :
    Calls Tryd.prog 16 #[.agg #[.int .i64 p, .string o, .int .i64 c], .agg #[.int .i64 p, .string o, .int .i64 c]] W fun e w' => e = .returned (.bool true) ∧ Ev w x l gs bs w' :=
  (eqHardKey_same p c o W).mono fun _ _ ⟨h1, h2⟩ => ⟨h1, h.keep h2⟩
theorem eqByteS_ev {w : World} {x : ShT} {l : List UInt8} {gs : List Nat} {bs : List (Nat × Value × Value × Value)} {g g' : Nat} {W : World} (h : Ev w x l (g :: g' :: gs) bs W) (hl : x.len ≤ 1048576) :
    Calls Tryd.prog 9 #[.slice (some ⟨g', 0, none⟩) x.len x.len, .slice (some ⟨g, 0, none⟩) x.len x.len] W fun e w' => e = .returned (.bool true) ∧ Ev w x l (g :: g' :: gs) bs w' := by
  have q := eqByteS_any (some ⟨g', 0, none⟩) (some ⟨g, 0, none⟩) x.len x.len x.len x.len l l W hl hl (h.g _ (List.mem_cons_of_mem _ (List.mem_cons_self ..))) (h.g _ (List.mem_cons_self ..))
  rw [decide_eq_true (rfl : l = l)] at q
  exact q.mono fun _ _ ⟨h1, h2⟩ => ⟨h1, h.keep h2⟩
/-- No byte. -/
def NoB (v : Value) : Prop := ∀ c, v ≠ byteV c
theorem NoB.i (n : Int) : NoB (.int .i64 n) := fun c h => by cases h
theorem NoB.s (o : ByteArray) : NoB (.string o) := fun c h => by cases h
theorem Ev.put {w : World} {x : ShT} {l : List UInt8} {gs : List Nat} {bs : List (Nat × Value × Value × Value)} {W : World} {g : Nat} {u v z : Value} (h : Ev w x l gs ((g, u, v, z) :: bs) W) (hu : NoB u) (hv : NoB v) (hz : NoB z) (u' v' z' : Value) :
    Ev w x l gs ((g, u', v', z') :: bs) (((W.setCell ⟨g, 0, none⟩ u').setCell ⟨g, 1, none⟩ v').setCell ⟨g, 2, none⟩ z') := by
  have hg := h.hi _ (List.mem_cons_self ..)
  simp only at hg
  have hr := h.b _ (List.mem_cons_self ..)
  simp only at hr
  have hB : But g W (((W.setCell ⟨g, 0, none⟩ u').setCell ⟨g, 1, none⟩ v').setCell ⟨g, 2, none⟩ z') := (((But.refl _ _).set _).set _).set _
  have hd := List.pairwise_cons.1 h.d
  refine ⟨hB.row h.k (by omega), hB.row h.a (by omega), fun y hy => ?_, fun y hy => ?_, ((h.B.setCell (by simp; omega) _).setCell (by simp; omega) _).setCell (by simp; omega) _, fun y hy => ?_, List.pairwise_cons.2 hd⟩
  · have q := h.g y hy
    refine ⟨q.1, q.2.imp_right fun ⟨b, off, e, hz1, r⟩ => ⟨b, off, e, Nat.lt_of_lt_of_le hz1 hB.size, Nat.lt_of_lt_of_le r.z hB.size, fun i hi => ?_⟩⟩
    refine hB.cell r.z (fun eb => ?_) (r.c i hi)
    simp only at eb
    subst eb
    have c := r.c i hi
    rw [hr.cell] at c
    have h3 : off + i = 0 ∨ off + i = 1 ∨ off + i = 2 := by
      have := (Array.getElem?_eq_some_iff.1 c).1
      simp at this; omega
    rcases h3 with e3 | e3 | e3 <;> rw [e3] at c <;> simp at c
    · exact hu _ c
    · exact hv _ c
    · exact hz _ c
  · rcases List.mem_cons.1 hy with rfl | hy
    · exact ((hr.set 0 u').set 1 v').set 2 z'
    · exact hB.row (h.b y (List.mem_cons_of_mem _ hy)) (fun e => hd.1 y hy e.symm)
  · rcases List.mem_cons.1 hy with rfl | hy
    · exact hg
    · exact h.hi y (List.mem_cons_of_mem _ hy)
/-- The answer is a key. -/
theorem outA_cells (x : ShT) (F : Int) : ∃ (p : Int) (o : ByteArray) (c : Int), outA x F = .agg #[.int .i64 p, .string o, .int .i64 c] := by
  unfold outA; split
  · exact ⟨_, _, _, rfl⟩
  · exact ⟨_, _, _, rfl⟩
end Go.Proofs.YtpagfcdoedlnoaaDoor.D
