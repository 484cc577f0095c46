/- LPq, LPr, LPs, one behind the other. -/
import Derived.Test.YtlbbjkpdionieaaDoorJ29
/- Sessions: an answer, by the program. -/
namespace Go.Proofs.YtlbbjkpdionieaaDoor
set_option linter.unusedSimpArgs false
set_option linter.unusedVariables false
set_option maxRecDepth 20000
open Go.RowKit Go.Maps


section
variable {w0 w : World} {b : Nat} {ka : Option Addr} {kl kc : Nat} {x : SsT} {mo me : Nat} {ov : Value} {Q : List BlT} {M : ByteArray → Option Value} {n : Nat}
theorem PsEnd.set1 {x' : SsT} {w5 : World} {g : Nat} {C : Array Value} (h : PsEnd w0 w b ka kl kc x' mo me w5) (hr : RowIs w5 g C 57) (hb : b ≤ w.heap.size) (hg : w.heap.size ≤ g) (o : Nat) (v : Value) : PsEnd w0 w b ka kl kc x' mo me (w5.setCell ⟨g, o, Option.none⟩ v) := by
  obtain ⟨⟨ov', Q', M', n', h1, h2⟩, h3⟩ := h
  have lo := h2.lo
  exact ⟨⟨ov', Q', M', n', h1, h2.setOut hr (by unfold StI; decide) (by omega) o v⟩, h3.setNew hg (by omega) o v⟩
theorem PsEnd.end4 {x' : SsT} {w5 : World} {g : Nat} {C : Array Value} (h : PsEnd w0 w b ka kl kc x' mo me w5) (hr : RowIs w5 g C 57) (hC : C.size = 4) (hb : b ≤ w.heap.size) (hg : w.heap.size ≤ g) (r : SessReplyT) :
    RowIs ((((w5.setCell ⟨g, 0, Option.none⟩ (.int .i64 r.f0)).setCell ⟨g, 1, Option.none⟩ (.string r.f1)).setCell ⟨g, 2, Option.none⟩ (.string r.f2)).setCell ⟨g, 3, Option.none⟩ (.int .i64 r.f3)) g (encR r) 57 ∧
    PsEnd w0 w b ka kl kc x' mo me ((((w5.setCell ⟨g, 0, Option.none⟩ (.int .i64 r.f0)).setCell ⟨g, 1, Option.none⟩ (.string r.f1)).setCell ⟨g, 2, Option.none⟩ (.string r.f2)).setCell ⟨g, 3, Option.none⟩ (.int .i64 r.f3)) := by
  have r1 := hr.set 0 (.int .i64 r.f0)
  have r2 := r1.set 1 (.string r.f1)
  have r3 := r2.set 2 (.string r.f2)
  have r4 := r3.set 3 (.int .i64 r.f3)
  have e : ((((C.setIfInBounds 0 (.int .i64 r.f0)).setIfInBounds 1 (.string r.f1)).setIfInBounds 2 (.string r.f2)).setIfInBounds 3 (.int .i64 r.f3)) = encR r := by
    obtain ⟨l⟩ := C
    simp at hC
    match l, hC with
    | [a, b, c, d], _ => rfl
  rw [e] at r4
  exact ⟨r4, (((h.set1 hr hb hg 0 _).set1 r1 hb hg 1 _).set1 r2 hb hg 2 _).set1 r3 hb hg 3 _⟩
def AnsIs (w0 w : World) (b : Nat) (ka : Option Addr) (kl kc : Nat) (x' : SsT) (mo me : Nat) (r : SessReplyT) (e : Ending) (w' : World) : Prop := e = .returned (.agg (encR r)) ∧ PsEnd w0 w b ka kl kc x' mo me w'
set_option maxHeartbeats 4000000 in
theorem ans_unfit (h : PsAt w0 w b ka kl kc x mo me ov Q M n) (hn : n ≤ x.given) (k t : Int) (u d i : ByteArray) (hu : u.size ≤ maxLen) (hd : d.size ≤ maxLen) (hf : fitE k t u d i = false) :
    Calls Tryd.prog 32 #[.pointer (some ⟨b, 0, none⟩), .agg #[.int .i64 k, .int .i64 t, .string u, .string d, .string i]] w (AnsIs w0 w b ka kl kc x mo me (errR 1)) := by
  have hbz := h.box.lt
  obtain ⟨W1, hW1⟩ : ∃ W, W = w.alloc (.cells #[.int .i64 k, .int .i64 t, .string u, .string d, .string i] 50) := ⟨_, rfl⟩
  obtain ⟨W2, hW2⟩ : ∃ W, W = W1.alloc (.cells #[.int .i64 0, .string ⟨#[]⟩, .string ⟨#[]⟩, .int .i64 0] 57) := ⟨_, rfl⟩
  have z1 : W1.heap.size = w.heap.size + 1 := by rw [hW1]; simp
  have b1 : Below w.heap.size w W1 := by rw [hW1]; exact bAl (Below.refl _ _) _
  have b12 : Below W1.heap.size W1 W2 := by rw [hW2]; exact bAl (Below.refl _ _) _
  have b2 : Below w.heap.size w W2 := by rw [hW2]; exact bAl b1 _
  have RE0 : RowIs W1 w.heap.size #[.int .i64 k, .int .i64 t, .string u, .string d, .string i] 50 := by rw [hW1]; exact RowIs.new _ _ _
  have RE := hide (RE0.keep b12)
  have RP := hide (show RowIs W2 (w.heap.size + 1) #[.int .i64 0, .string ⟨#[]⟩, .string ⟨#[]⟩, .int .i64 0] 57 by rw [hW2, ← z1]; exact RowIs.new _ _ _)
  have HW := hide (show (w.alloc (.cells #[.int .i64 k, .int .i64 t, .string u, .string d, .string i] 50)).alloc (.cells #[.int .i64 0, .string ⟨#[]⟩, .string ⟨#[]⟩, .int .i64 0] 57) = W2 by rw [hW2, hW1])
  have H2 := hide (h.keep b2)
  have T2 := hide (h.tch b2)
  have e0 := (unhide RE).at (o := 0) (v := .int .i64 k) rfl
  have e1 := (unhide RE).at (o := 1) (v := .int .i64 t) rfl
  have e2 := (unhide RE).at (o := 2) (v := .string u) rfl
  have e3 := (unhide RE).at (o := 3) (v := .string d) rfl
  have e4 := (unhide RE).at (o := 4) (v := .string i) rfl
  have ez := (unhide RE).lt
  have qf := form_any k t u d i W2 hu hd
  clear hW1 hW2 b1 b12 b2 RE0
  rw [hf] at qf
  go_enter Tryd.func32, Tryd.ntmps32
  go_upto_region 1 with fail
  refine wp_world (unhide HW) ?_
  clear HW
  go_wp2_with fail
  refine qf.mono ?_
  rintro e w5 ⟨rfl, hb5⟩
  have RP5 := hide ((unhide RP).keep hb5)
  have PE := hide (show PsEnd w0 w b ka kl kc x mo me w5 from ⟨⟨ov, Q, M, n, hn, (unhide H2).keep hb5⟩, (unhide T2).trans ((unhide H2).tch hb5)⟩)
  clear hb5 qf
  have r0 := (unhide RP5).at (o := 0) (v := .int .i64 0) rfl
  have p0 := (unhide RP5).froz 0
  have r1 := (unhide RP5).at (o := 1) (v := .string ⟨#[]⟩) rfl
  have p1 := (unhide RP5).froz 1
  have r2 := (unhide RP5).at (o := 2) (v := .string ⟨#[]⟩) rfl
  have p2 := (unhide RP5).froz 2
  have r3 := (unhide RP5).at (o := 3) (v := .int .i64 0) rfl
  have p3 := (unhide RP5).froz 3
  have rz := (unhide RP5).lt
  go_wp2_with fail
  try simp only [Exit.inBlock, Exit.then]
  have qe := fun (r : SessReplyT) => (unhide PE).end4 (unhide RP5) rfl (by omega) (by omega) r
  exact bodyPost_ret (ret_reply rfl _ _ (w.heap.size + 1) (encR (errR 1)) rfl rfl (qe (errR 1)).1) rfl ⟨rfl, (qe (errR 1)).2⟩
end
end Go.Proofs.YtlbbjkpdionieaaDoor
/- Sessions: answers, past and all. -/
namespace Go.Proofs.YtlbbjkpdionieaaDoor
set_option linter.unusedSimpArgs false
set_option linter.unusedVariables false
set_option maxRecDepth 20000
open Go.RowKit Go.Maps

section
variable {w0 w : World} {b : Nat} {ka : Option Addr} {kl kc : Nat} {x : SsT} {mo me : Nat} {ov : Value} {Q : List BlT} {M : ByteArray → Option Value} {n : Nat}
set_option maxHeartbeats 4000000 in
theorem ans_past (h : PsAt w0 w b ka kl kc x mo me ov Q M n) (hn : n ≤ x.given) (k t : Int) (u d i : ByteArray) (hu : u.size ≤ maxLen) (hd : d.size ≤ maxLen) (hf : fitE k t u d i = true) (ht : t < x.now) :
    Calls Tryd.prog 32 #[.pointer (some ⟨b, 0, none⟩), .agg #[.int .i64 k, .int .i64 t, .string u, .string d, .string i]] w (AnsIs w0 w b ka kl kc x mo me (errR 2)) := by
  have hbz := h.box.lt
  obtain ⟨W1, hW1⟩ : ∃ W, W = w.alloc (.cells #[.int .i64 k, .int .i64 t, .string u, .string d, .string i] 50) := ⟨_, rfl⟩
  obtain ⟨W2, hW2⟩ : ∃ W, W = W1.alloc (.cells #[.int .i64 0, .string ⟨#[]⟩, .string ⟨#[]⟩, .int .i64 0] 57) := ⟨_, rfl⟩
  have z1 : W1.heap.size = w.heap.size + 1 := by rw [hW1]; simp
  have b1 : Below w.heap.size w W1 := by rw [hW1]; exact bAl (Below.refl _ _) _
  have b12 : Below W1.heap.size W1 W2 := by rw [hW2]; exact bAl (Below.refl _ _) _
  have b2 : Below w.heap.size w W2 := by rw [hW2]; exact bAl b1 _
  have RE0 : RowIs W1 w.heap.size #[.int .i64 k, .int .i64 t, .string u, .string d, .string i] 50 := by rw [hW1]; exact RowIs.new _ _ _
  have RE := hide (RE0.keep b12)
  have RP := hide (show RowIs W2 (w.heap.size + 1) #[.int .i64 0, .string ⟨#[]⟩, .string ⟨#[]⟩, .int .i64 0] 57 by rw [hW2, ← z1]; exact RowIs.new _ _ _)
  have HW := hide (show (w.alloc (.cells #[.int .i64 k, .int .i64 t, .string u, .string d, .string i] 50)).alloc (.cells #[.int .i64 0, .string ⟨#[]⟩, .string ⟨#[]⟩, .int .i64 0] 57) = W2 by rw [hW2, hW1])
  have H2 := hide (h.keep b2)
  have T2 := hide (h.tch b2)
  have e0 := (unhide RE).at (o := 0) (v := .int .i64 k) rfl
  have e1 := (unhide RE).at (o := 1) (v := .int .i64 t) rfl
  have e2 := (unhide RE).at (o := 2) (v := .string u) rfl
  have e3 := (unhide RE).at (o := 3) (v := .string d) rfl
  have e4 := (unhide RE).at (o := 4) (v := .string i) rfl
  have ez := (unhide RE).lt
  have qf := form_any k t u d i W2 hu hd
  clear hW1 hW2 b1 b12 b2 RE0
  rw [hf] at qf
  have c3 := hide (fun (w' : World) (hb : Below W2.heap.size W2 w') => ((unhide H2).keep hb).box.at (o := 3) (v := .int .i64 x.now) rfl)
  have cz := hide (fun (w' : World) (hb : Below W2.heap.size W2 w') => ((unhide H2).keep hb).box.lt)
  go_enter Tryd.func32, Tryd.ntmps32
  go_upto_region 1 with fail
  refine wp_world (unhide HW) ?_
  clear HW
  go_wp2_with fail
  refine qf.mono ?_
  rintro e w5 ⟨rfl, hb5⟩
  have B5 := hide (show Below W2.heap.size W2 w5.drew from bTr hb5 (Below.refl _ _).drew)
  have RE5 := (unhide RE).keep hb5
  have f1 := RE5.at (o := 1) (v := .int .i64 t) rfl
  have fz := RE5.lt
  have c35 := unhide c3 _ hb5
  have z35 := unhide cz _ hb5
  clear hb5 qf RE5
  go_wp2_with fail
  go_region
  all_goals
    obtain ⟨W6, hW6⟩ : ∃ W, W = w5.drew := ⟨_, rfl⟩
    rw [← hW6] at B5 ⊢
    have RP5 := hide ((unhide RP).keep (unhide B5))
    have PE := hide (show PsEnd w0 w b ka kl kc x mo me W6 from ⟨⟨ov, Q, M, n, hn, (unhide H2).keep (unhide B5)⟩, (unhide T2).trans ((unhide H2).tch (unhide B5))⟩)
    clear hW6
    have r0 := (unhide RP5).at (o := 0) (v := .int .i64 0) rfl
    have p0 := (unhide RP5).froz 0
    have r1 := (unhide RP5).at (o := 1) (v := .string ⟨#[]⟩) rfl
    have p1 := (unhide RP5).froz 1
    have r2 := (unhide RP5).at (o := 2) (v := .string ⟨#[]⟩) rfl
    have p2 := (unhide RP5).froz 2
    have r3 := (unhide RP5).at (o := 3) (v := .int .i64 0) rfl
    have p3 := (unhide RP5).froz 3
    have rz := (unhide RP5).lt
    go_wp2_with fail
    try simp only [Exit.inBlock, Exit.then]
    have qe := fun (r : SessReplyT) => (unhide PE).end4 (unhide RP5) rfl (by omega) (by omega) r
    exact bodyPost_ret (ret_reply rfl _ _ (w.heap.size + 1) (encR (errR 2)) rfl rfl (qe (errR 2)).1) rfl ⟨rfl, (qe (errR 2)).2⟩
end
end Go.Proofs.YtlbbjkpdionieaaDoor
/- Sessions: an answer, signing out everywhere. -/
namespace Go.Proofs.YtlbbjkpdionieaaDoor
set_option linter.unusedSimpArgs false
set_option linter.unusedVariables false
set_option maxRecDepth 20000
open Go.RowKit Go.Maps

section
variable {w0 w : World} {b : Nat} {ka : Option Addr} {kl kc : Nat} {x : SsT} {mo me : Nat} {ov : Value} {Q : List BlT} {M : ByteArray → Option Value} {n : Nat}
set_option maxHeartbeats 4000000 in
theorem ans_all (h : PsAt w0 w b ka kl kc x mo me ov Q M n) (hn : n ≤ x.given) (t : Int) (u d i : ByteArray) (hu : u.size ≤ maxLen) (hd : d.size ≤ maxLen) (hf : fitE 5 t u d i = true) (ht : ¬ t < x.now) :
    Calls Tryd.prog 32 #[.pointer (some ⟨b, 0, none⟩), .agg #[.int .i64 5, .int .i64 t, .string u, .string d, .string i]] w (AnsIs w0 w b ka kl kc { x with now := t, list := killAll u x.list } mo me ⟨0, ⟨#[]⟩, u, 0⟩) := by
  have hbz := h.box.lt
  obtain ⟨W1, hW1⟩ : ∃ W, W = w.alloc (.cells #[.int .i64 5, .int .i64 t, .string u, .string d, .string i] 50) := ⟨_, rfl⟩
  obtain ⟨W2, hW2⟩ : ∃ W, W = W1.alloc (.cells #[.int .i64 0, .string ⟨#[]⟩, .string ⟨#[]⟩, .int .i64 0] 57) := ⟨_, rfl⟩
  have z1 : W1.heap.size = w.heap.size + 1 := by rw [hW1]; simp
  have b1 : Below w.heap.size w W1 := by rw [hW1]; exact bAl (Below.refl _ _) _
  have b12 : Below W1.heap.size W1 W2 := by rw [hW2]; exact bAl (Below.refl _ _) _
  have b2 : Below w.heap.size w W2 := by rw [hW2]; exact bAl b1 _
  have RE0 : RowIs W1 w.heap.size #[.int .i64 5, .int .i64 t, .string u, .string d, .string i] 50 := by rw [hW1]; exact RowIs.new _ _ _
  have RE := hide (RE0.keep b12)
  have RP := hide (show RowIs W2 (w.heap.size + 1) #[.int .i64 0, .string ⟨#[]⟩, .string ⟨#[]⟩, .int .i64 0] 57 by rw [hW2, ← z1]; exact RowIs.new _ _ _)
  have HW := hide (show (w.alloc (.cells #[.int .i64 5, .int .i64 t, .string u, .string d, .string i] 50)).alloc (.cells #[.int .i64 0, .string ⟨#[]⟩, .string ⟨#[]⟩, .int .i64 0] 57) = W2 by rw [hW2, hW1])
  have H2 := hide (h.keep b2)
  have T2 := hide (h.tch b2)
  have e0 := (unhide RE).at (o := 0) (v := .int .i64 5) rfl
  have e1 := (unhide RE).at (o := 1) (v := .int .i64 t) rfl
  have e2 := (unhide RE).at (o := 2) (v := .string u) rfl
  have e3 := (unhide RE).at (o := 3) (v := .string d) rfl
  have e4 := (unhide RE).at (o := 4) (v := .string i) rfl
  have ez := (unhide RE).lt
  have qf := form_any 5 t u d i W2 hu hd
  clear hW1 hW2 b1 b12 b2 RE0
  have gt : ¬ t < x.now := ht
  rw [hf] at qf
  have c3 := hide (fun (w' : World) (hb : Below W2.heap.size W2 w') => ((unhide H2).keep hb).box.at (o := 3) (v := .int .i64 x.now) rfl)
  have cz := hide (fun (w' : World) (hb : Below W2.heap.size W2 w') => ((unhide H2).keep hb).box.lt)
  go_enter Tryd.func32, Tryd.ntmps32
  go_upto_region 1 with fail
  refine wp_world (unhide HW) ?_
  clear HW
  go_wp2_with fail
  refine qf.mono ?_
  rintro e w5 ⟨rfl, hb5⟩
  have B5 := hide (show Below W2.heap.size W2 w5.drew from bTr hb5 (Below.refl _ _).drew)
  have RE5 := (unhide RE).keep hb5
  have f1 := RE5.at (o := 1) (v := .int .i64 t) rfl
  have fz := RE5.lt
  have c35 := unhide c3 _ hb5
  have z35 := unhide cz _ hb5
  clear hb5 qf RE5
  go_wp2_with fail
  go_region
  all_goals
    obtain ⟨W6, hW6⟩ : ∃ W, W = w5.drew := ⟨_, rfl⟩
    rw [← hW6] at B5 ⊢
    clear hW6 c35 z35 f1 fz
    have H6 := hide ((unhide H2).keep (unhide B5))
    have T6 := hide ((unhide T2).trans ((unhide H2).tch (unhide B5)))
    have RE6 := hide ((unhide RE).keep (unhide B5))
    have RP6 := hide ((unhide RP).keep (unhide B5))
    obtain ⟨W7, hW7⟩ : ∃ W, W = W6.setCell ⟨b, 3, none⟩ (.int .i64 t) := ⟨_, rfl⟩
    have H7 := hide (show PsAt w0 W7 b ka kl kc { x with now := t } mo me ov Q M n by rw [hW7]; exact (unhide H6).setBox 3 (.int .i64 t) { x with now := t } rfl rfl (Nat.le_refl _))
    have T7 := hide (show Tch StI w0.heap.size w W7 by rw [hW7]; exact (unhide T6).trans ((unhide H6).tchB 3 (.int .i64 t)))
    have RE7 := hide (show RowIs W7 w.heap.size #[.int .i64 5, .int .i64 t, .string u, .string d, .string i] 50 by rw [hW7]; exact (unhide RE6).setOther _ (by show w.heap.size ≠ b; omega))
    have RP7 := hide (show RowIs W7 (w.heap.size + 1) #[.int .i64 0, .string ⟨#[]⟩, .string ⟨#[]⟩, .int .i64 0] 57 by rw [hW7]; exact (unhide RP6).setOther _ (by show w.heap.size + 1 ≠ b; omega))
    have HW7 := hide hW7.symm
    clear hW7
    have y1 := (unhide RE6).at (o := 1) (v := .int .i64 t) rfl
    have yz := (unhide RE6).lt
    have y3 := (unhide H6).box.at (o := 3) (v := .int .i64 x.now) rfl
    have y4 := (unhide H6).box.froz 3
    have y5 := (unhide H6).box.lt
    go_upto_region 6 with fail
    refine wp_world (unhide HW7) ?_
    clear HW7 y1 yz y3 y4 y5
    have g0 := (unhide RE7).at (o := 0) (v := .int .i64 5) rfl
    have g1 := (unhide RE7).at (o := 1) (v := .int .i64 t) rfl
    have g2 := (unhide RE7).at (o := 2) (v := .string u) rfl
    have g3 := (unhide RE7).at (o := 3) (v := .string d) rfl
    have g4 := (unhide RE7).at (o := 4) (v := .string i) rfl
    have gz := (unhide RE7).lt
    have qa := hide (logoutAll_any (unhide H7) hn u hu)
    go_wp2_with fail
    refine (unhide qa).mono ?_
    rintro e w8 ⟨rfl, he8, ht8⟩
    have nE : ¬ StI 50 := by unfold StI; decide
    have nR : ¬ StI 57 := by unfold StI; decide
    have PE := hide (show PsEnd w0 w b ka kl kc { x with now := t, list := killAll u x.list } mo me w8 from ⟨he8, (unhide T7).trans ht8⟩)
    have RP5 := hide (ht8.row (unhide RP7) nR)
    have RE8 := ht8.row (unhide RE7) nE
    have m2 := RE8.at (o := 2) (v := .string u) rfl
    have mz := RE8.lt
    clear he8 ht8 nE nR RE8
    have r0 := (unhide RP5).at (o := 0) (v := .int .i64 0) rfl
    have p0 := (unhide RP5).froz 0
    have r1 := (unhide RP5).at (o := 1) (v := .string ⟨#[]⟩) rfl
    have p1 := (unhide RP5).froz 1
    have r2 := (unhide RP5).at (o := 2) (v := .string ⟨#[]⟩) rfl
    have p2 := (unhide RP5).froz 2
    have r3 := (unhide RP5).at (o := 3) (v := .int .i64 0) rfl
    have p3 := (unhide RP5).froz 3
    have rz := (unhide RP5).lt
    go_wp2_with fail
    try simp only [Exit.inBlock, Exit.then]
    have qe := fun (r : SessReplyT) => (unhide PE).end4 (unhide RP5) rfl (by omega) (by omega) r
    exact bodyPost_ret (ret_reply rfl _ _ (w.heap.size + 1) (encR ⟨0, ⟨#[]⟩, u, 0⟩) rfl rfl (qe ⟨0, ⟨#[]⟩, u, 0⟩).1) rfl ⟨rfl, (qe ⟨0, ⟨#[]⟩, u, 0⟩).2⟩
end
end Go.Proofs.YtlbbjkpdionieaaDoor
