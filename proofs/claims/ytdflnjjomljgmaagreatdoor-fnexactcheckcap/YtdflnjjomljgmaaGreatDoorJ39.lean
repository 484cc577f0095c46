/- RImR, RSid, one behind the other. -/
import Derived.Test.YtdflnjjomljgmaaGreatDoorJ38
import Derived.Test.YtdflnjjomljgmaaGreatDoorJ37
/- impl.risingByName at params, goodParams. -/
namespace Go.Proofs.YtdflnjjomljgmaaGreatDoor.V
open Go.RowKit

end Go.Proofs.YtdflnjjomljgmaaGreatDoor.V
/- impl: the sides of a term, as closures. -/
namespace Go.Proofs.YtdflnjjomljgmaaGreatDoor.V
open Go.RowKit Go.Maps

/-- What is given, as a map holds it. -/
def gM (g : ByteArray → Option AtomT) : ByteArray → Option Value := fun s => (g s).map fun a => atomV a
theorem gM_get (g : ByteArray → Option AtomT) (s : ByteArray) : (gM g s).getD (.agg #[.int .i64 0, .int .i64 0, .string empB, .string empB]) = atomV ((g s).getD zA) := by
  unfold gM; cases g s <;> rfl
theorem gM_some (g : ByteArray → Option AtomT) (s : ByteArray) : (gM g s).isSome = (g s).isSome := by unfold gM; simp
/-- A call of it enters it. -/
def Ent (N : FuncId) : Prop := ∀ (args : Array Value) (w : World), (callFunc N args).run Tryz.prog w = .ok (.enter N args) w
theorem ent_of {N : FuncId} {fn : Func} (hf : Tryz.prog.funcs[N]? = some fn) (hname : (fn.name == "runtime.NumGoroutine") = false) (hb : fn.body.isNone = false) : Ent N := by
  intro args w
  have h1 : fn.name ≠ "runtime.NumGoroutine" := by simpa using hname
  have h2 : fn.body ≠ none := fun e => by rw [e] at hb; cases hb
  simp [callFunc, hf, h1, h2]
/-- What lies from lo on, below hi, is kept. -/
structure KeptR (lo hi : Nat) (w w' : World) : Prop where
  size : hi ≤ w'.heap.size
  block : ∀ b, lo ≤ b → b < hi → w'.heap[b]? = w.heap[b]?
theorem KeptR.refl (lo : Nat) (w : World) : KeptR lo w.heap.size w w := ⟨Nat.le_refl _, fun _ _ _ => rfl⟩
theorem KeptR.below {lo : Nat} {w w' : World} (h : Below w.heap.size w w') : KeptR lo w.heap.size w w' := ⟨h.size, fun b _ hb => h.block b hb⟩
theorem KeptR.trans {lo : Nat} {w a b : World} (h : KeptR lo w.heap.size w a) (k : KeptR lo a.heap.size a b) : KeptR lo w.heap.size w b :=
  ⟨Nat.le_trans h.size k.size, fun c h1 h2 => (k.block c h1 (Nat.lt_of_lt_of_le h2 h.size)).trans (h.block c h1 h2)⟩
theorem KeptR.set {lo hi : Nat} {w w' : World} (h : KeptR lo hi w w') (b o : Nat) (v : Value) (hb : b < lo ∨ hi ≤ b) : KeptR lo hi w (w'.setCell ⟨b, o, none⟩ v) :=
  ⟨by simpa [World.setCell] using h.size, fun c h1 h2 => (heap_setCell_other w' ⟨b, o, none⟩ c v (by rintro rfl; omega)).trans (h.block c h1 h2)⟩
theorem KeptR.alloc {lo hi : Nat} {w w' : World} (h : KeptR lo hi w w') (o : Obj) : KeptR lo hi w (w'.alloc o) :=
  ⟨Nat.le_trans h.size (by simp), fun c h1 h2 => (Below.heap_alloc w' o c (Nat.lt_of_lt_of_le h2 h.size)).trans (h.block c h1 h2)⟩
theorem KeptR.less {lo lo' hi : Nat} {w w' : World} (h : KeptR lo hi w w') (hl : lo ≤ lo') : KeptR lo' hi w w' := ⟨h.size, fun c h1 h2 => h.block c (Nat.le_trans hl h1) h2⟩
theorem RowIs.keptR {lo : Nat} {w w' : World} {b : Nat} {C : Array Value} {T : TypeId} (h : RowIs w b C T) (hk : KeptR lo w.heap.size w w') (hb : lo ≤ b) : RowIs w' b C T := by
  have hl := h.lt
  unfold RowIs at *; rw [hk.block b hb hl]; exact h
/-- A function value that tells a side: it hangs on nothing below lo. -/
def SideV (lo : Nat) (w : World) (v : Value) (F : (ByteArray → Option AtomT) → AtomT × Bool) : Prop :=
  ∃ N caps, v = .func (.func N) #[] caps ∧ Ent N ∧ ∀ (w' : World) (b n : Nat) (g : ByteArray → Option AtomT), KeptR lo w.heap.size w w' → KMs w' b n (gM g) →
    Calls Tryz.prog N (#[.map (some b)] ++ caps) w' fun e w'' => e = .returned (.tuple #[atomV (F g).1, .bool (F g).2]) ∧ Below w'.heap.size w' w''
theorem SideV.keep {lo : Nat} {w w1 : World} {v : Value} {F : (ByteArray → Option AtomT) → AtomT × Bool} (h : SideV lo w v F) (hb : KeptR lo w.heap.size w w1) : SideV lo w1 v F := by
  obtain ⟨N, caps, e, en, q⟩ := h
  exact ⟨N, caps, e, en, fun w' b n g h1 h2 => q w' b n g (hb.trans h1) h2⟩
theorem SideV.less {lo lo' : Nat} {w : World} {v : Value} {F : (ByteArray → Option AtomT) → AtomT × Bool} (h : SideV lo' w v F) (hl : lo ≤ lo') : SideV lo w v F := by
  obtain ⟨N, caps, e, en, q⟩ := h
  exact ⟨N, caps, e, en, fun w' b n g h1 h2 => q w' b n g (h1.less hl) h2⟩
theorem SideV.fn {lo : Nat} {w : World} {v : Value} {F : (ByteArray → Option AtomT) → AtomT × Bool} (h : SideV lo w v F) : ∃ N c, v = .func (.func N) #[] c := by
  obtain ⟨N, c, e, _⟩ := h; exact ⟨N, c, e⟩
/-- A param's side. -/
def sdP (l : List ParamT) (s : ByteArray) (g : ByteArray → Option AtomT) : AtomT × Bool :=
  match findP l s with
  | none => (zA, false)
  | some p => ((g s).getD zA, (g s).isSome && (((g s).getD zA).x == p.f1))
def sdR (l : List ParamT) (t : CavTermT) (g : ByteArray → Option AtomT) : AtomT × Bool := if t.f2 = empB then (tAtom t, true) else sdP l t.f2 g
theorem sdP_val (l : List ParamT) (s : ByteArray) (g : ByteArray → Option AtomT) : (sdP l s g).2 = (valP l g s).2 ∧ ((valP l g s).2 = true → (sdP l s g).1 = (valP l g s).1) := by
  unfold sdP valP
  cases findP l s <;> simp
theorem tRes_congr {op : Int} {A A' B B' : AtomT × Bool} (h1 : A.2 = A'.2) (h2 : A'.2 = true → A.1 = A'.1) (h3 : B.2 = B'.2) (h4 : B'.2 = true → B.1 = B'.1) : tRes op A B = tRes op A' B' := by
  unfold tRes
  rw [h1, h3]
  by_cases h : A'.2 = true ∧ B'.2 = true
  · rw [if_pos h, if_pos h, h2 h.1, h4 h.2]
  · rw [if_neg h, if_neg h]
theorem tRes_sd (l : List ParamT) (t : CavTermT) (g : ByteArray → Option AtomT) : tRes t.f1 (sdP l t.f0 g) (sdR l t g) = termR l g t := by
  unfold termR
  refine tRes_congr (sdP_val l t.f0 g).1 (sdP_val l t.f0 g).2 ?_ ?_
  · unfold sdR sideR; split
    · rfl
    · exact (sdP_val l t.f2 g).1
  · unfold sdR sideR; split
    · exact fun _ => rfl
    · exact (sdP_val l t.f2 g).2

set_option maxHeartbeats 400000 in
theorem paramSide2_any (b : Nat) (w : World) : Calls Tryz.prog 125 #[.map (some b)] w fun e w' => e = .returned (.tuple #[atomV zA, .bool false]) ∧ Below w.heap.size w w' := by
  go_enter Tryz.func125, Tryz.ntmps125
  go_wp2_with fail
  exact bodyPost_ret (v := .tuple #[atomV zA, .bool false]) (by simp [results, Tryz.results125, go_sem, zA]) rfl ⟨rfl, bAl (Below.refl _ _) _⟩

set_option maxHeartbeats 400000 in
theorem rightSide1_any (t : CavTermT) (b bt : Nat) (w : World) (hr : RowIs w bt #[.string t.f0, .int .i64 t.f1, .string t.f2, .int .i64 t.f3, .int .i64 t.f4, .string t.f5, .string t.f6] 58) : Calls Tryz.prog 127 #[.map (some b), .pointer (some ⟨bt, 0, none⟩)] w fun e w' => e = .returned (.tuple #[atomV (tAtom t), .bool true]) ∧ Below w.heap.size w w' := by
  have t3 := hr.at (o := 3) (v := .int .i64 t.f3) rfl
  have t4 := hr.at (o := 4) (v := .int .i64 t.f4) rfl
  have t5 := hr.at (o := 5) (v := .string t.f5) rfl
  have t6 := hr.at (o := 6) (v := .string t.f6) rfl
  have zt := hr.lt
  clear hr
  go_enter Tryz.func127, Tryz.ntmps127
  go_wp2_with fail
  exact bodyPost_ret (v := .tuple #[atomV (tAtom t), .bool true]) (by simp [results, Tryz.results127, go_sem, tAtom]) rfl ⟨rfl, bAl (Below.refl _ _) _⟩

theorem zeroAt (w : World) : (zeroValue 40).run Tryz.prog w = .ok (.agg #[.int .i64 0, .int .i64 0, .string empB, .string empB]) w := by kernel_rfl

set_option maxRecDepth 20000 in
set_option maxHeartbeats 1000000 in
theorem paramSide3_any (b n bn bk : Nat) (s : ByteArray) (k : Int) (g : ByteArray → Option AtomT) (w : World) (hs : s.size ≤ maxLen) (hm : KMs w b n (gM g)) (hn : w.cell? ⟨bn, 0, none⟩ = some (.string s)) (hk : w.cell? ⟨bk, 0, none⟩ = some (.int .i64 k)) :
    Calls Tryz.prog 126 #[.map (some b), .pointer (some ⟨bn, 0, none⟩), .pointer (some ⟨bk, 0, none⟩)] w fun e w' => e = .returned (.tuple #[atomV ((g s).getD zA), .bool ((g s).isSome && (((g s).getD zA).x == k))]) ∧ Below w.heap.size w w' := by
  have HM := hide hm
  have hzb := hm.lt
  have zn : bn < w.heap.size := World.block_lt_of_cell? w ⟨bn, 0, none⟩ hn
  have zk : bk < w.heap.size := World.block_lt_of_cell? w ⟨bk, 0, none⟩ hk
  have eg := hide (gM_get g s)
  have es := hide (gM_some g s)
  clear hm
  generalize (g s).getD zA = A at *
  generalize (g s).isSome = okA at *
  obtain ⟨W1, hW1⟩ : ∃ W, W = w.alloc (.cells #[.int .i64 0, .int .i64 0, .string empB, .string empB] 40) := ⟨_, rfl⟩
  obtain ⟨W2, hW2⟩ : ∃ W, W = W1.alloc (.cells #[.int .i64 A.x, .int .i64 A.n, .string A.t, .string A.y] 40) := ⟨_, rfl⟩
  have z1 : W1.heap.size = w.heap.size + 1 := by rw [hW1]; simp
  have b1 : Below w.heap.size w W1 := by rw [hW1]; exact bAl (Below.refl _ _) _
  have b2 : Below W1.heap.size W1 W2 := by rw [hW2]; exact bAl (Below.refl _ _) _
  have A2 := show RowIs W2 (w.heap.size + 1) #[.int .i64 A.x, .int .i64 A.n, .string A.t, .string A.y] 40 by rw [hW2, ← z1]; exact RowIs.new _ _ _
  have R2 := hide ((show RowIs W1 w.heap.size #[.int .i64 0, .int .i64 0, .string empB, .string empB] 40 by rw [hW1]; exact RowIs.new _ _ _).keep b2)
  have B2 := hide (bTr b1 b2)
  have HW2 := hide (show (w.alloc (.cells #[.int .i64 0, .int .i64 0, .string empB, .string empB] 40)).alloc (.cells #[.int .i64 A.x, .int .i64 A.n, .string A.t, .string A.y] 40) = W2 by rw [hW2, hW1])
  have B0 := hide (bAl (Below.refl w.heap.size w) (.cells #[.int .i64 0, .int .i64 0, .string empB, .string empB] 40))
  have a0 := A2.at (o := 0) (v := .int .i64 A.x) rfl
  have a1 := A2.at (o := 1) (v := .int .i64 A.n) rfl
  have a2 := A2.at (o := 2) (v := .string A.t) rfl
  have a3 := A2.at (o := 3) (v := .string A.y) rfl
  have k0 := cellB (unhide B2) zk hk
  have r0 := (unhide R2).at (o := 0) (v := .int .i64 0) rfl
  have r1 := (unhide R2).at (o := 1) (v := .int .i64 0) rfl
  have r2 := (unhide R2).at (o := 2) (v := .string empB) rfl
  have r3 := (unhide R2).at (o := 3) (v := .string empB) rfl
  have g0 := (unhide R2).froz 0
  have g1 := (unhide R2).froz 1
  have g2 := (unhide R2).froz 2
  have g3 := (unhide R2).froz 3
  have zA2 := A2.lt
  have zR2 := (unhide R2).lt
  have n1 : w.heap.size ≠ w.heap.size + 1 := by omega
  have n2 : w.heap.size + 1 ≠ w.heap.size := by omega
  have n3 : bk ≠ w.heap.size := by omega
  have n4 : w.heap.size ≠ bk := by omega
  clear hW1 hW2 z1 b1 b2 A2
  go_enter Tryz.func126, Tryz.ntmps126
  go_wp2_with (at_lookup; refine wpList_look_km _ kStr rfl _ _ _ rfl _ Tryz.underlying109 (zeroAt _) b n _ rfl ((unhide HM).keepB (unhide B0) hzb) s rfl hs _ _ (unhide eg) (unhide es) ?_)
  rw [unhide HW2]
  clear HW2 HM eg es hn hk
  cases okA
  · go_region
    all_goals go_wp2_with fail
    have rr := ((((unhide R2).set 0 (.int .i64 A.x)).set 1 (.int .i64 A.n)).set 2 (.string A.t)).set 3 (.string A.y)
    have x0 := rr.at (o := 0) (v := .int .i64 A.x) rfl
    have x1 := rr.at (o := 1) (v := .int .i64 A.n) rfl
    have x2 := rr.at (o := 2) (v := .string A.t) rfl
    have x3 := rr.at (o := 3) (v := .string A.y) rfl
    refine bodyPost_ret (v := .tuple #[atomV A, .bool false]) (by simp [results, Tryz.results126, go_sem, x0, x1, x2, x3]) rfl ⟨rfl, ?_⟩
    (repeat (first | exact unhide B2 | refine Below.drew ?_ | refine Below.setCell ?_ (by show w.heap.size ≤ w.heap.size; omega) _))
  · go_region
    all_goals go_wp2_with fail
    have rr := ((((unhide R2).set 0 (.int .i64 A.x)).set 1 (.int .i64 A.n)).set 2 (.string A.t)).set 3 (.string A.y)
    have x0 := rr.at (o := 0) (v := .int .i64 A.x) rfl
    have x1 := rr.at (o := 1) (v := .int .i64 A.n) rfl
    have x2 := rr.at (o := 2) (v := .string A.t) rfl
    have x3 := rr.at (o := 3) (v := .string A.y) rfl
    refine bodyPost_ret (v := .tuple #[atomV A, .bool (A.x == k)]) (by simp [results, Tryz.results126, go_sem, x0, x1, x2, x3]) rfl ⟨rfl, ?_⟩
    (repeat (first | exact unhide B2 | refine Below.drew ?_ | refine Below.setCell ?_ (by show w.heap.size ≤ w.heap.size; omega) _))

/-- Where the first param of that name is; -1: there is none. -/
def FstN (l : List ParamT) (s : ByteArray) (i : Int) : Prop := (∃ k, ∃ h : k < l.length, i = (k : Int) ∧ findP l s = some l[k]) ∨ (i = -1 ∧ findP l s = none)

set_option maxHeartbeats 400000 in
theorem paramSide1_any (x : ParamT) (bn : Nat) (s : ByteArray) (w : World) (hn : w.cell? ⟨bn, 0, none⟩ = some (.string s)) :
    Calls Tryz.prog 124 #[.agg #[.string x.f0, .int .i64 x.f1], .pointer (some ⟨bn, 0, none⟩)] w fun e w' => RetB e (x.f0 = s) ∧ Below w.heap.size w w' := by
  have zn : bn < w.heap.size := World.block_lt_of_cell? w ⟨bn, 0, none⟩ hn
  go_enter Tryz.func124, Tryz.ntmps124
  go_wp2_with fail
  go_ret
  exact ⟨retB strEq_iff, bAl (Below.refl _ _) _⟩
end Go.Proofs.YtdflnjjomljgmaaGreatDoor.V
