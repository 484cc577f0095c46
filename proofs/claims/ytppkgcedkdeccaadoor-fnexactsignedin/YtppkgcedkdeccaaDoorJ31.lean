/- LPs, LPt, LPu, one behind the other. -/
import Derived.Test.YtppkgcedkdeccaaDoorJ30
/- Sessions: an answer, signing out everywhere. -/
namespace Go.Proofs.YtppkgcedkdeccaaDoor
set_option linter.unusedSimpArgs false
set_option linter.unusedVariables false
set_option maxRecDepth 20000
open Go.RowKit Go.Maps

section
variable {w0 w : World} {b : Nat} {ka : Option Addr} {kl kc : Nat} {x : SsT} {mo me : Nat} {ov : Value} {Q : List BlT} {M : ByteArray → Option Value} {n : Nat}
set_option maxHeartbeats 4000000 in
theorem ans_all (h : PsAt w0 w b ka kl kc x mo me ov Q M n) (hn : n ≤ x.given) (t : Int) (u d i : ByteArray) (hu : u.size ≤ maxLen) (hd : d.size ≤ maxLen) (hf : fitE 5 t u d i = true) (ht : ¬ t < x.now) :
    Calls Tryd.prog 52 #[.pointer (some ⟨b, 0, none⟩), .agg #[.int .i64 5, .int .i64 t, .string u, .string d, .string i]] w (AnsIs w0 w b ka kl kc { x with now := t, list := killAll u x.list } mo me ⟨0, ⟨#[]⟩, u, 0⟩) := by
  have hbz := h.box.lt
  obtain ⟨W1, hW1⟩ : ∃ W, W = w.alloc (.cells #[.int .i64 5, .int .i64 t, .string u, .string d, .string i] 34) := ⟨_, rfl⟩
  obtain ⟨W2, hW2⟩ : ∃ W, W = W1.alloc (.cells #[.int .i64 0, .string ⟨#[]⟩, .string ⟨#[]⟩, .int .i64 0] 31) := ⟨_, rfl⟩
  have z1 : W1.heap.size = w.heap.size + 1 := by rw [hW1]; simp
  have b1 : Below w.heap.size w W1 := by rw [hW1]; exact bAl (Below.refl _ _) _
  have b12 : Below W1.heap.size W1 W2 := by rw [hW2]; exact bAl (Below.refl _ _) _
  have b2 : Below w.heap.size w W2 := by rw [hW2]; exact bAl b1 _
  have RE0 : RowIs W1 w.heap.size #[.int .i64 5, .int .i64 t, .string u, .string d, .string i] 34 := by rw [hW1]; exact RowIs.new _ _ _
  have RE := hide (RE0.keep b12)
  have RP := hide (show RowIs W2 (w.heap.size + 1) #[.int .i64 0, .string ⟨#[]⟩, .string ⟨#[]⟩, .int .i64 0] 31 by rw [hW2, ← z1]; exact RowIs.new _ _ _)
  have HW := hide (show (w.alloc (.cells #[.int .i64 5, .int .i64 t, .string u, .string d, .string i] 34)).alloc (.cells #[.int .i64 0, .string ⟨#[]⟩, .string ⟨#[]⟩, .int .i64 0] 31) = W2 by rw [hW2, hW1])
  have H2 := hide (h.keep b2)
  have T2 := hide (h.tch b2)
  have e0 := (unhide RE).at (o := 0) (v := .int .i64 5) rfl
  have e1 := (unhide RE).at (o := 1) (v := .int .i64 t) rfl
  have e2 := (unhide RE).at (o := 2) (v := .string u) rfl
  have e3 := (unhide RE).at (o := 3) (v := .string d) rfl
  have e4 := (unhide RE).at (o := 4) (v := .string i) rfl
  have ez := (unhide RE).lt
  have qf := form_any 5 t u d i W2 hu hd
  clear hW1 hW2 b1 b12 b2 RE0
  have gt : ¬ t < x.now := ht
  rw [hf] at qf
  have c3 := hide (fun (w' : World) (hb : Below W2.heap.size W2 w') => ((unhide H2).keep hb).box.at (o := 3) (v := .int .i64 x.now) rfl)
  have cz := hide (fun (w' : World) (hb : Below W2.heap.size W2 w') => ((unhide H2).keep hb).box.lt)
  go_enter Tryd.func52, Tryd.ntmps52
  go_upto_region 1 with fail
  refine wp_world (unhide HW) ?_
  clear HW
  go_wp2_with fail
  refine qf.mono ?_
  rintro e w5 ⟨rfl, hb5⟩
  have B5 := hide (show Below W2.heap.size W2 w5.drew from bTr hb5 (Below.refl _ _).drew)
  have RE5 := (unhide RE).keep hb5
  have f1 := RE5.at (o := 1) (v := .int .i64 t) rfl
  have fz := RE5.lt
  have c35 := unhide c3 _ hb5
  have z35 := unhide cz _ hb5
  clear hb5 qf RE5
  go_wp2_with fail
  go_region
  all_goals
    obtain ⟨W6, hW6⟩ : ∃ W, W = w5.drew := ⟨_, rfl⟩
    rw [← hW6] at B5 ⊢
    clear hW6 c35 z35 f1 fz
    have H6 := hide ((unhide H2).keep (unhide B5))
    have T6 := hide ((unhide T2).trans ((unhide H2).tch (unhide B5)))
    have RE6 := hide ((unhide RE).keep (unhide B5))
    have RP6 := hide ((unhide RP).keep (unhide B5))
    obtain ⟨W7, hW7⟩ : ∃ W, W = W6.setCell ⟨b, 3, none⟩ (.int .i64 t) := ⟨_, rfl⟩
    have H7 := hide (show PsAt w0 W7 b ka kl kc { x with now := t } mo me ov Q M n by rw [hW7]; exact (unhide H6).setBox 3 (.int .i64 t) { x with now := t } rfl rfl (Nat.le_refl _))
    have T7 := hide (show Tch StI w0.heap.size w W7 by rw [hW7]; exact (unhide T6).trans ((unhide H6).tchB 3 (.int .i64 t)))
    have RE7 := hide (show RowIs W7 w.heap.size #[.int .i64 5, .int .i64 t, .string u, .string d, .string i] 34 by rw [hW7]; exact (unhide RE6).setOther _ (by show w.heap.size ≠ b; omega))
    have RP7 := hide (show RowIs W7 (w.heap.size + 1) #[.int .i64 0, .string ⟨#[]⟩, .string ⟨#[]⟩, .int .i64 0] 31 by rw [hW7]; exact (unhide RP6).setOther _ (by show w.heap.size + 1 ≠ b; omega))
    have HW7 := hide hW7.symm
    clear hW7
    have y1 := (unhide RE6).at (o := 1) (v := .int .i64 t) rfl
    have yz := (unhide RE6).lt
    have y3 := (unhide H6).box.at (o := 3) (v := .int .i64 x.now) rfl
    have y4 := (unhide H6).box.froz 3
    have y5 := (unhide H6).box.lt
    go_upto_region 6 with fail
    refine wp_world (unhide HW7) ?_
    clear HW7 y1 yz y3 y4 y5
    have g0 := (unhide RE7).at (o := 0) (v := .int .i64 5) rfl
    have g1 := (unhide RE7).at (o := 1) (v := .int .i64 t) rfl
    have g2 := (unhide RE7).at (o := 2) (v := .string u) rfl
    have g3 := (unhide RE7).at (o := 3) (v := .string d) rfl
    have g4 := (unhide RE7).at (o := 4) (v := .string i) rfl
    have gz := (unhide RE7).lt
    have qa := hide (logoutAll_any (unhide H7) hn u hu)
    go_wp2_with fail
    refine (unhide qa).mono ?_
    rintro e w8 ⟨rfl, he8, ht8⟩
    have nE : ¬ StI 34 := by unfold StI; decide
    have nR : ¬ StI 31 := by unfold StI; decide
    have PE := hide (show PsEnd w0 w b ka kl kc { x with now := t, list := killAll u x.list } mo me w8 from ⟨he8, (unhide T7).trans ht8⟩)
    have RP5 := hide (ht8.row (unhide RP7) nR)
    have RE8 := ht8.row (unhide RE7) nE
    have m2 := RE8.at (o := 2) (v := .string u) rfl
    have mz := RE8.lt
    clear he8 ht8 nE nR RE8
    have r0 := (unhide RP5).at (o := 0) (v := .int .i64 0) rfl
    have p0 := (unhide RP5).froz 0
    have r1 := (unhide RP5).at (o := 1) (v := .string ⟨#[]⟩) rfl
    have p1 := (unhide RP5).froz 1
    have r2 := (unhide RP5).at (o := 2) (v := .string ⟨#[]⟩) rfl
    have p2 := (unhide RP5).froz 2
    have r3 := (unhide RP5).at (o := 3) (v := .int .i64 0) rfl
    have p3 := (unhide RP5).froz 3
    have rz := (unhide RP5).lt
    go_wp2_with fail
    try simp only [Exit.inBlock, Exit.then]
    have qe := fun (r : SessReplyT) => (unhide PE).end4 (unhide RP5) rfl (by omega) (by omega) r
    exact bodyPost_ret (ret_reply rfl _ _ (w.heap.size + 1) (encR ⟨0, ⟨#[]⟩, u, 0⟩) rfl rfl (qe ⟨0, ⟨#[]⟩, u, 0⟩).1) rfl ⟨rfl, (qe ⟨0, ⟨#[]⟩, u, 0⟩).2⟩
end
end Go.Proofs.YtppkgcedkdeccaaDoor
/- Sessions: an answer, a login. -/
namespace Go.Proofs.YtppkgcedkdeccaaDoor
set_option linter.unusedSimpArgs false
set_option linter.unusedVariables false
set_option maxRecDepth 20000
open Go.RowKit Go.Maps

section
variable {w0 w : World} {b : Nat} {ka : Option Addr} {kl kc : Nat} {x : SsT} {mo me : Nat} {ov : Value} {Q : List BlT} {M : ByteArray → Option Value} {n : Nat}
theorem PsAt.lastRow {x' : SsT} {q : BlT} {s : SxT} {L : List SxT} (h : PsAt w0 w b ka kl kc x' mo me ov (Q ++ [q]) M n) (hx : x'.list = L ++ [s]) : RowIs w q.sb (sC s q) 103 := by
  have hl : Q.length = L.length := by have := h.len; rw [hx] at this; simpa using this
  have e := h.ses Q.length (by simp) (by rw [hx]; simp; omega)
  have e1 : (Q ++ [q])[Q.length]'(by simp) = q := by rw [List.getElem_append_right (Nat.le_refl _)]; simp
  have e2 : ∀ (h1 : Q.length < x'.list.length), x'.list[Q.length] = s := by
    rw [hx]
    intro h1
    rw [List.getElem_append_right (by omega)]
    simp [hl]
  rw [e1, e2] at e
  exact e
set_option maxHeartbeats 8000000 in
theorem ans_login (h : PsAt w0 w b ka kl kc x mo me ov Q M n) (hn : n ≤ x.given) (hg : x.given ≤ 990) (hQ : Q.length ≤ 990) (t : Int) (u d i : ByteArray) (hu : u.size ≤ maxLen) (hd : d.size ≤ maxLen) (hK : D.SlB w0 w0.heap.size ka kl x.key) (hkl : kl ≤ 64) (hM : D.Mults w0) (hT : Tab w0) (hf : fitE 1 t u d i = true) (ht : ¬ t < x.now) :
    Calls Tryd.prog 52 #[.pointer (some ⟨b, 0, none⟩), .agg #[.int .i64 1, .int .i64 t, .string u, .string d, .string i]] w (AnsIs w0 w b ka kl kc { x with now := t, given := x.given + 1, list := x.list ++ [sNew { x with now := t } u d] } mo me (toldR (sNew { x with now := t } u d))) := by
  have hbz := h.box.lt
  obtain ⟨W1, hW1⟩ : ∃ W, W = w.alloc (.cells #[.int .i64 1, .int .i64 t, .string u, .string d, .string i] 34) := ⟨_, rfl⟩
  obtain ⟨W2, hW2⟩ : ∃ W, W = W1.alloc (.cells #[.int .i64 0, .string ⟨#[]⟩, .string ⟨#[]⟩, .int .i64 0] 31) := ⟨_, rfl⟩
  have z1 : W1.heap.size = w.heap.size + 1 := by rw [hW1]; simp
  have b1 : Below w.heap.size w W1 := by rw [hW1]; exact bAl (Below.refl _ _) _
  have b12 : Below W1.heap.size W1 W2 := by rw [hW2]; exact bAl (Below.refl _ _) _
  have b2 : Below w.heap.size w W2 := by rw [hW2]; exact bAl b1 _
  have RE0 : RowIs W1 w.heap.size #[.int .i64 1, .int .i64 t, .string u, .string d, .string i] 34 := by rw [hW1]; exact RowIs.new _ _ _
  have RE := hide (RE0.keep b12)
  have RP := hide (show RowIs W2 (w.heap.size + 1) #[.int .i64 0, .string ⟨#[]⟩, .string ⟨#[]⟩, .int .i64 0] 31 by rw [hW2, ← z1]; exact RowIs.new _ _ _)
  have HW := hide (show (w.alloc (.cells #[.int .i64 1, .int .i64 t, .string u, .string d, .string i] 34)).alloc (.cells #[.int .i64 0, .string ⟨#[]⟩, .string ⟨#[]⟩, .int .i64 0] 31) = W2 by rw [hW2, hW1])
  have H2 := hide (h.keep b2)
  have T2 := hide (h.tch b2)
  have e0 := (unhide RE).at (o := 0) (v := .int .i64 1) rfl
  have e1 := (unhide RE).at (o := 1) (v := .int .i64 t) rfl
  have e2 := (unhide RE).at (o := 2) (v := .string u) rfl
  have e3 := (unhide RE).at (o := 3) (v := .string d) rfl
  have e4 := (unhide RE).at (o := 4) (v := .string i) rfl
  have ez := (unhide RE).lt
  have qf := form_any 1 t u d i W2 hu hd
  clear hW1 hW2 b1 b12 b2 RE0
  have gt : ¬ t < x.now := ht
  rw [hf] at qf
  have c3 := hide (fun (w' : World) (hb : Below W2.heap.size W2 w') => ((unhide H2).keep hb).box.at (o := 3) (v := .int .i64 x.now) rfl)
  have cz := hide (fun (w' : World) (hb : Below W2.heap.size W2 w') => ((unhide H2).keep hb).box.lt)
  go_enter Tryd.func52, Tryd.ntmps52
  go_upto_region 1 with fail
  refine wp_world (unhide HW) ?_
  clear HW
  go_wp2_with fail
  refine qf.mono ?_
  rintro e w5 ⟨rfl, hb5⟩
  have B5 := hide (show Below W2.heap.size W2 w5.drew from bTr hb5 (Below.refl _ _).drew)
  have RE5 := (unhide RE).keep hb5
  have f1 := RE5.at (o := 1) (v := .int .i64 t) rfl
  have fz := RE5.lt
  have c35 := unhide c3 _ hb5
  have z35 := unhide cz _ hb5
  clear hb5 qf RE5
  go_wp2_with fail
  go_region
  all_goals
    obtain ⟨W6, hW6⟩ : ∃ W, W = w5.drew := ⟨_, rfl⟩
    rw [← hW6] at B5 ⊢
    clear hW6 c35 z35 f1 fz
    have H6 := hide ((unhide H2).keep (unhide B5))
    have T6 := hide ((unhide T2).trans ((unhide H2).tch (unhide B5)))
    have RE6 := hide ((unhide RE).keep (unhide B5))
    have RP6 := hide ((unhide RP).keep (unhide B5))
    obtain ⟨W7, hW7⟩ : ∃ W, W = W6.setCell ⟨b, 3, none⟩ (.int .i64 t) := ⟨_, rfl⟩
    have H7 := hide (show PsAt w0 W7 b ka kl kc { x with now := t } mo me ov Q M n by rw [hW7]; exact (unhide H6).setBox 3 (.int .i64 t) { x with now := t } rfl rfl (Nat.le_refl _))
    have T7 := hide (show Tch StI w0.heap.size w W7 by rw [hW7]; exact (unhide T6).trans ((unhide H6).tchB 3 (.int .i64 t)))
    have RE7 := hide (show RowIs W7 w.heap.size #[.int .i64 1, .int .i64 t, .string u, .string d, .string i] 34 by rw [hW7]; exact (unhide RE6).setOther _ (by show w.heap.size ≠ b; omega))
    have RP7 := hide (show RowIs W7 (w.heap.size + 1) #[.int .i64 0, .string ⟨#[]⟩, .string ⟨#[]⟩, .int .i64 0] 31 by rw [hW7]; exact (unhide RP6).setOther _ (by show w.heap.size + 1 ≠ b; omega))
    have HW7 := hide hW7.symm
    clear hW7
    have y1 := (unhide RE6).at (o := 1) (v := .int .i64 t) rfl
    have yz := (unhide RE6).lt
    have y3 := (unhide H6).box.at (o := 3) (v := .int .i64 x.now) rfl
    have y4 := (unhide H6).box.froz 3
    have y5 := (unhide H6).box.lt
    go_upto_region 6 with fail
    refine wp_world (unhide HW7) ?_
    clear HW7 y1 yz y3 y4 y5
    have g0 := (unhide RE7).at (o := 0) (v := .int .i64 1) rfl
    have g1 := (unhide RE7).at (o := 1) (v := .int .i64 t) rfl
    have g2 := (unhide RE7).at (o := 2) (v := .string u) rfl
    have g3 := (unhide RE7).at (o := 3) (v := .string d) rfl
    have g4 := (unhide RE7).at (o := 4) (v := .string i) rfl
    have gz := (unhide RE7).lt
    have qa := hide (login_any (unhide H7) hn hg hQ 1 t u d i hu hK hkl hM hT)
    clear hK hM hT
    go_wp2_with fail
    refine (unhide qa).mono ?_
    rintro e w8 ⟨ov', q, M', n', rfl, hn', he8, ht8⟩
    have nR : ¬ StI 31 := by unfold StI; decide
    have qt := hide (iTold_any (sNew { x with now := t } u d) q w8 (he8.lastRow rfl))
    have H8 := hide he8
    have T8 := hide ((unhide T7).trans ht8)
    have RP8 := hide (ht8.row (unhide RP7) nR)
    have N8 := hide hn'
    clear he8 ht8 nR hn'
    go_wp2_with fail
    refine (unhide qt).mono ?_
    rintro e w9 ⟨rfl, hb9⟩
    have PE := hide (show PsEnd w0 w b ka kl kc { x with now := t, given := x.given + 1, list := x.list ++ [sNew { x with now := t } u d] } mo me w9 from ⟨⟨ov', _, M', n', unhide N8, (unhide H8).keep hb9⟩, (unhide T8).trans ((unhide H8).tch hb9)⟩)
    have RP5 := hide ((unhide RP8).keep hb9)
    clear hb9
    obtain ⟨r, hr⟩ : ∃ r, r = toldR (sNew { x with now := t } u d) := ⟨_, rfl⟩
    rw [← hr]
    have HR := hide hr
    clear hr
    obtain ⟨r0', r1', r2', r3'⟩ := r
    unfold encR
    have r0 := (unhide RP5).at (o := 0) (v := .int .i64 0) rfl
    have p0 := (unhide RP5).froz 0
    have r1 := (unhide RP5).at (o := 1) (v := .string ⟨#[]⟩) rfl
    have p1 := (unhide RP5).froz 1
    have r2 := (unhide RP5).at (o := 2) (v := .string ⟨#[]⟩) rfl
    have p2 := (unhide RP5).froz 2
    have r3 := (unhide RP5).at (o := 3) (v := .int .i64 0) rfl
    have p3 := (unhide RP5).froz 3
    have rz := (unhide RP5).lt
    go_wp2_with fail
    try simp only [Exit.inBlock, Exit.then]
    have qe := fun (r : SessReplyT) => (unhide PE).end4 (unhide RP5) rfl (by omega) (by omega) r
    exact bodyPost_ret (ret_reply rfl _ _ (w.heap.size + 1) (encR ⟨r0', r1', r2', r3'⟩) rfl rfl (qe ⟨r0', r1', r2', r3'⟩).1) rfl ⟨by rw [← unhide HR], (qe ⟨r0', r1', r2', r3'⟩).2⟩
end
end Go.Proofs.YtppkgcedkdeccaaDoor
/- Sessions: an answer to an event that shows an Id. -/
namespace Go.Proofs.YtppkgcedkdeccaaDoor
set_option linter.unusedSimpArgs false
set_option linter.unusedVariables false
set_option maxRecDepth 20000
open Go.RowKit Go.Maps

section
variable {w0 w : World} {b : Nat} {ka : Option Addr} {kl kc : Nat} {x : SsT} {mo me : Nat} {ov : Value} {Q : List BlT} {M : ByteArray → Option Value} {n : Nat}
set_option maxHeartbeats 8000000 in
theorem ans_err (h : PsAt w0 w b ka kl kc x mo me ov Q M n) (hn : n ≤ x.given) (k t : Int) (u d i : ByteArray) (hu : u.size ≤ maxLen) (hd : d.size ≤ maxLen) (hf : fitE k t u d i = true) (ht : ¬ t < x.now) (k1 : (k == 1) = false) (k5 : (k == 5) = false) (m : Int) (hm : (m == 0) = false) (x' : SsT)
    (hs : ∀ W7, PsAt w0 W7 b ka kl kc { x with now := t } mo me ov Q M n → Calls Tryd.prog 60 #[.pointer (some ⟨b, 0, none⟩), .agg #[.int .i64 k, .int .i64 t, .string u, .string d, .string i]] W7 fun e w' => e = .returned (.tuple #[.pointer none, .int .i64 m]) ∧ PsEnd w0 W7 b ka kl kc x' mo me w') :
    Calls Tryd.prog 52 #[.pointer (some ⟨b, 0, none⟩), .agg #[.int .i64 k, .int .i64 t, .string u, .string d, .string i]] w (AnsIs w0 w b ka kl kc x' mo me (errR m)) := by
  have hbz := h.box.lt
  obtain ⟨W1, hW1⟩ : ∃ W, W = w.alloc (.cells #[.int .i64 k, .int .i64 t, .string u, .string d, .string i] 34) := ⟨_, rfl⟩
  obtain ⟨W2, hW2⟩ : ∃ W, W = W1.alloc (.cells #[.int .i64 0, .string ⟨#[]⟩, .string ⟨#[]⟩, .int .i64 0] 31) := ⟨_, rfl⟩
  have z1 : W1.heap.size = w.heap.size + 1 := by rw [hW1]; simp
  have b1 : Below w.heap.size w W1 := by rw [hW1]; exact bAl (Below.refl _ _) _
  have b12 : Below W1.heap.size W1 W2 := by rw [hW2]; exact bAl (Below.refl _ _) _
  have b2 : Below w.heap.size w W2 := by rw [hW2]; exact bAl b1 _
  have RE0 : RowIs W1 w.heap.size #[.int .i64 k, .int .i64 t, .string u, .string d, .string i] 34 := by rw [hW1]; exact RowIs.new _ _ _
  have RE := hide (RE0.keep b12)
  have RP := hide (show RowIs W2 (w.heap.size + 1) #[.int .i64 0, .string ⟨#[]⟩, .string ⟨#[]⟩, .int .i64 0] 31 by rw [hW2, ← z1]; exact RowIs.new _ _ _)
  have HW := hide (show (w.alloc (.cells #[.int .i64 k, .int .i64 t, .string u, .string d, .string i] 34)).alloc (.cells #[.int .i64 0, .string ⟨#[]⟩, .string ⟨#[]⟩, .int .i64 0] 31) = W2 by rw [hW2, hW1])
  have H2 := hide (h.keep b2)
  have T2 := hide (h.tch b2)
  have e0 := (unhide RE).at (o := 0) (v := .int .i64 k) rfl
  have e1 := (unhide RE).at (o := 1) (v := .int .i64 t) rfl
  have e2 := (unhide RE).at (o := 2) (v := .string u) rfl
  have e3 := (unhide RE).at (o := 3) (v := .string d) rfl
  have e4 := (unhide RE).at (o := 4) (v := .string i) rfl
  have ez := (unhide RE).lt
  have qf := form_any k t u d i W2 hu hd
  clear hW1 hW2 b1 b12 b2 RE0
  have HS := hide hs
  clear hs
  have gt : ¬ t < x.now := ht
  rw [hf] at qf
  have c3 := hide (fun (w' : World) (hb : Below W2.heap.size W2 w') => ((unhide H2).keep hb).box.at (o := 3) (v := .int .i64 x.now) rfl)
  have cz := hide (fun (w' : World) (hb : Below W2.heap.size W2 w') => ((unhide H2).keep hb).box.lt)
  go_enter Tryd.func52, Tryd.ntmps52
  go_upto_region 1 with fail
  refine wp_world (unhide HW) ?_
  clear HW
  go_wp2_with fail
  refine qf.mono ?_
  rintro e w5 ⟨rfl, hb5⟩
  have B5 := hide (show Below W2.heap.size W2 w5.drew from bTr hb5 (Below.refl _ _).drew)
  have RE5 := (unhide RE).keep hb5
  have f1 := RE5.at (o := 1) (v := .int .i64 t) rfl
  have fz := RE5.lt
  have c35 := unhide c3 _ hb5
  have z35 := unhide cz _ hb5
  clear hb5 qf RE5
  go_wp2_with fail
  go_region
  all_goals
    obtain ⟨W6, hW6⟩ : ∃ W, W = w5.drew := ⟨_, rfl⟩
    rw [← hW6] at B5 ⊢
    clear hW6 c35 z35 f1 fz
    have H6 := hide ((unhide H2).keep (unhide B5))
    have T6 := hide ((unhide T2).trans ((unhide H2).tch (unhide B5)))
    have RE6 := hide ((unhide RE).keep (unhide B5))
    have RP6 := hide ((unhide RP).keep (unhide B5))
    obtain ⟨W7, hW7⟩ : ∃ W, W = W6.setCell ⟨b, 3, none⟩ (.int .i64 t) := ⟨_, rfl⟩
    have H7 := hide (show PsAt w0 W7 b ka kl kc { x with now := t } mo me ov Q M n by rw [hW7]; exact (unhide H6).setBox 3 (.int .i64 t) { x with now := t } rfl rfl (Nat.le_refl _))
    have T7 := hide (show Tch StI w0.heap.size w W7 by rw [hW7]; exact (unhide T6).trans ((unhide H6).tchB 3 (.int .i64 t)))
    have RE7 := hide (show RowIs W7 w.heap.size #[.int .i64 k, .int .i64 t, .string u, .string d, .string i] 34 by rw [hW7]; exact (unhide RE6).setOther _ (by show w.heap.size ≠ b; omega))
    have RP7 := hide (show RowIs W7 (w.heap.size + 1) #[.int .i64 0, .string ⟨#[]⟩, .string ⟨#[]⟩, .int .i64 0] 31 by rw [hW7]; exact (unhide RP6).setOther _ (by show w.heap.size + 1 ≠ b; omega))
    have HW7 := hide hW7.symm
    clear hW7
    have y1 := (unhide RE6).at (o := 1) (v := .int .i64 t) rfl
    have yz := (unhide RE6).lt
    have y3 := (unhide H6).box.at (o := 3) (v := .int .i64 x.now) rfl
    have y4 := (unhide H6).box.froz 3
    have y5 := (unhide H6).box.lt
    go_upto_region 6 with fail
    refine wp_world (unhide HW7) ?_
    clear HW7 y1 yz y3 y4 y5
    have g0 := (unhide RE7).at (o := 0) (v := .int .i64 k) rfl
    have g1 := (unhide RE7).at (o := 1) (v := .int .i64 t) rfl
    have g2 := (unhide RE7).at (o := 2) (v := .string u) rfl
    have g3 := (unhide RE7).at (o := 3) (v := .string d) rfl
    have g4 := (unhide RE7).at (o := 4) (v := .string i) rfl
    have gz := (unhide RE7).lt
    have qa := hide (unhide HS _ (unhide H7))
    go_wp2_with fail
    refine (unhide qa).mono ?_
    rintro e w8 ⟨rfl, he8, ht8⟩
    have nR : ¬ StI 31 := by unfold StI; decide
    have PE := hide (show PsEnd w0 w b ka kl kc x' mo me w8 from ⟨he8, (unhide T7).trans ht8⟩)
    have RP5 := hide (ht8.row (unhide RP7) nR)
    clear he8 ht8 nR
    have r0 := (unhide RP5).at (o := 0) (v := .int .i64 0) rfl
    have p0 := (unhide RP5).froz 0
    have r1 := (unhide RP5).at (o := 1) (v := .string ⟨#[]⟩) rfl
    have p1 := (unhide RP5).froz 1
    have r2 := (unhide RP5).at (o := 2) (v := .string ⟨#[]⟩) rfl
    have p2 := (unhide RP5).froz 2
    have r3 := (unhide RP5).at (o := 3) (v := .int .i64 0) rfl
    have p3 := (unhide RP5).froz 3
    have rz := (unhide RP5).lt
    go_wp2_with fail
    try simp only [Exit.inBlock, Exit.then]
    have qe := fun (r : SessReplyT) => (unhide PE).end4 (unhide RP5) rfl (by omega) (by omega) r
    exact bodyPost_ret (ret_reply rfl _ _ (w.heap.size + 1) (encR (errR m)) rfl rfl (qe (errR m)).1) rfl ⟨rfl, (qe (errR m)).2⟩
set_option maxHeartbeats 8000000 in
theorem ans_used (h : PsAt w0 w b ka kl kc x mo me ov Q M n) (hn : n ≤ x.given) (k t : Int) (u d i : ByteArray) (hu : u.size ≤ maxLen) (hd : d.size ≤ maxLen) (hf : fitE k t u d i = true) (ht : ¬ t < x.now) (k1 : (k == 1) = false) (k5 : (k == 5) = false) (x' : SsT) {j : Nat} (hj : j < Q.length) (s' : SxT)
    (hs : ∀ W7, PsAt w0 W7 b ka kl kc { x with now := t } mo me ov Q M n → Calls Tryd.prog 60 #[.pointer (some ⟨b, 0, none⟩), .agg #[.int .i64 k, .int .i64 t, .string u, .string d, .string i]] W7 fun e w' => e = .returned (.tuple #[.pointer (some ⟨Q[j].sb, 0, none⟩), .int .i64 0]) ∧ PsAt w0 w' b ka kl kc { x with now := t } mo me ov Q M n ∧ Tch StI w0.heap.size W7 w')
    (hv : ∀ W8, PsAt w0 W8 b ka kl kc { x with now := t } mo me ov Q M n → Calls Tryd.prog 61 #[.pointer (some ⟨b, 0, none⟩), .pointer (some ⟨Q[j].sb, 0, none⟩), .int .i64 k] W8 fun e w' => e = .returned (.tuple #[]) ∧ RowIs w' Q[j].sb (sC s' Q[j]) 103 ∧ PsEnd w0 W8 b ka kl kc x' mo me w') :
    Calls Tryd.prog 52 #[.pointer (some ⟨b, 0, none⟩), .agg #[.int .i64 k, .int .i64 t, .string u, .string d, .string i]] w (AnsIs w0 w b ka kl kc x' mo me (toldR s')) := by
  have hbz := h.box.lt
  obtain ⟨W1, hW1⟩ : ∃ W, W = w.alloc (.cells #[.int .i64 k, .int .i64 t, .string u, .string d, .string i] 34) := ⟨_, rfl⟩
  obtain ⟨W2, hW2⟩ : ∃ W, W = W1.alloc (.cells #[.int .i64 0, .string ⟨#[]⟩, .string ⟨#[]⟩, .int .i64 0] 31) := ⟨_, rfl⟩
  have z1 : W1.heap.size = w.heap.size + 1 := by rw [hW1]; simp
  have b1 : Below w.heap.size w W1 := by rw [hW1]; exact bAl (Below.refl _ _) _
  have b12 : Below W1.heap.size W1 W2 := by rw [hW2]; exact bAl (Below.refl _ _) _
  have b2 : Below w.heap.size w W2 := by rw [hW2]; exact bAl b1 _
  have RE0 : RowIs W1 w.heap.size #[.int .i64 k, .int .i64 t, .string u, .string d, .string i] 34 := by rw [hW1]; exact RowIs.new _ _ _
  have RE := hide (RE0.keep b12)
  have RP := hide (show RowIs W2 (w.heap.size + 1) #[.int .i64 0, .string ⟨#[]⟩, .string ⟨#[]⟩, .int .i64 0] 31 by rw [hW2, ← z1]; exact RowIs.new _ _ _)
  have HW := hide (show (w.alloc (.cells #[.int .i64 k, .int .i64 t, .string u, .string d, .string i] 34)).alloc (.cells #[.int .i64 0, .string ⟨#[]⟩, .string ⟨#[]⟩, .int .i64 0] 31) = W2 by rw [hW2, hW1])
  have H2 := hide (h.keep b2)
  have T2 := hide (h.tch b2)
  have e0 := (unhide RE).at (o := 0) (v := .int .i64 k) rfl
  have e1 := (unhide RE).at (o := 1) (v := .int .i64 t) rfl
  have e2 := (unhide RE).at (o := 2) (v := .string u) rfl
  have e3 := (unhide RE).at (o := 3) (v := .string d) rfl
  have e4 := (unhide RE).at (o := 4) (v := .string i) rfl
  have ez := (unhide RE).lt
  have qf := form_any k t u d i W2 hu hd
  clear hW1 hW2 b1 b12 b2 RE0
  have HS := hide hs
  have HV := hide hv
  clear hs hv
  have gt : ¬ t < x.now := ht
  rw [hf] at qf
  have c3 := hide (fun (w' : World) (hb : Below W2.heap.size W2 w') => ((unhide H2).keep hb).box.at (o := 3) (v := .int .i64 x.now) rfl)
  have cz := hide (fun (w' : World) (hb : Below W2.heap.size W2 w') => ((unhide H2).keep hb).box.lt)
  go_enter Tryd.func52, Tryd.ntmps52
  go_upto_region 1 with fail
  refine wp_world (unhide HW) ?_
  clear HW
  go_wp2_with fail
  refine qf.mono ?_
  rintro e w5 ⟨rfl, hb5⟩
  have B5 := hide (show Below W2.heap.size W2 w5.drew from bTr hb5 (Below.refl _ _).drew)
  have RE5 := (unhide RE).keep hb5
  have f1 := RE5.at (o := 1) (v := .int .i64 t) rfl
  have fz := RE5.lt
  have c35 := unhide c3 _ hb5
  have z35 := unhide cz _ hb5
  clear hb5 qf RE5
  go_wp2_with fail
  go_region
  all_goals
    obtain ⟨W6, hW6⟩ : ∃ W, W = w5.drew := ⟨_, rfl⟩
    rw [← hW6] at B5 ⊢
    clear hW6 c35 z35 f1 fz
    have H6 := hide ((unhide H2).keep (unhide B5))
    have T6 := hide ((unhide T2).trans ((unhide H2).tch (unhide B5)))
    have RE6 := hide ((unhide RE).keep (unhide B5))
    have RP6 := hide ((unhide RP).keep (unhide B5))
    obtain ⟨W7, hW7⟩ : ∃ W, W = W6.setCell ⟨b, 3, none⟩ (.int .i64 t) := ⟨_, rfl⟩
    have H7 := hide (show PsAt w0 W7 b ka kl kc { x with now := t } mo me ov Q M n by rw [hW7]; exact (unhide H6).setBox 3 (.int .i64 t) { x with now := t } rfl rfl (Nat.le_refl _))
    have T7 := hide (show Tch StI w0.heap.size w W7 by rw [hW7]; exact (unhide T6).trans ((unhide H6).tchB 3 (.int .i64 t)))
    have RE7 := hide (show RowIs W7 w.heap.size #[.int .i64 k, .int .i64 t, .string u, .string d, .string i] 34 by rw [hW7]; exact (unhide RE6).setOther _ (by show w.heap.size ≠ b; omega))
    have RP7 := hide (show RowIs W7 (w.heap.size + 1) #[.int .i64 0, .string ⟨#[]⟩, .string ⟨#[]⟩, .int .i64 0] 31 by rw [hW7]; exact (unhide RP6).setOther _ (by show w.heap.size + 1 ≠ b; omega))
    have HW7 := hide hW7.symm
    clear hW7
    have y1 := (unhide RE6).at (o := 1) (v := .int .i64 t) rfl
    have yz := (unhide RE6).lt
    have y3 := (unhide H6).box.at (o := 3) (v := .int .i64 x.now) rfl
    have y4 := (unhide H6).box.froz 3
    have y5 := (unhide H6).box.lt
    go_upto_region 6 with fail
    refine wp_world (unhide HW7) ?_
    clear HW7 y1 yz y3 y4 y5
    have g0 := (unhide RE7).at (o := 0) (v := .int .i64 k) rfl
    have g1 := (unhide RE7).at (o := 1) (v := .int .i64 t) rfl
    have g2 := (unhide RE7).at (o := 2) (v := .string u) rfl
    have g3 := (unhide RE7).at (o := 3) (v := .string d) rfl
    have g4 := (unhide RE7).at (o := 4) (v := .string i) rfl
    have gz := (unhide RE7).lt
    have qa := hide (unhide HS _ (unhide H7))
    go_wp2_with fail
    refine (unhide qa).mono ?_
    rintro e w8 ⟨rfl, he8, ht8⟩
    have nE : ¬ StI 34 := by unfold StI; decide
    have nR : ¬ StI 31 := by unfold StI; decide
    have T8 := hide ((unhide T7).trans ht8)
    have RP8 := hide (ht8.row (unhide RP7) nR)
    have RE8 := ht8.row (unhide RE7) nE
    have m0 := RE8.at (o := 0) (v := .int .i64 k) rfl
    have mz := RE8.lt
    have qv := hide (unhide HV _ he8)
    clear he8 ht8 nE RE8
    go_wp2_with fail
    refine (unhide qv).mono ?_
    rintro e w9 ⟨rfl, hr9, he9, ht9⟩
    have qt := hide (iTold_any s' Q[j] w9 hr9)
    have E9 := hide he9
    have T9 := hide ((unhide T8).trans ht9)
    have RP9 := hide (ht9.row (unhide RP8) nR)
    clear he9 ht9 nR hr9
    go_wp2_with fail
    refine (unhide qt).mono ?_
    rintro e w10 ⟨rfl, hb10⟩
    have PE := hide (show PsEnd w0 w b ka kl kc x' mo me w10 by
      obtain ⟨ov', Q', M', n', g1, g2⟩ := unhide E9
      exact ⟨⟨ov', Q', M', n', g1, g2.keep hb10⟩, (unhide T9).trans (g2.tch hb10)⟩)
    have RP5 := hide ((unhide RP9).keep hb10)
    clear hb10
    obtain ⟨r, hr⟩ : ∃ r, r = toldR s' := ⟨_, rfl⟩
    rw [← hr]
    have HR := hide hr
    clear hr
    obtain ⟨r0', r1', r2', r3'⟩ := r
    unfold encR
    have r0 := (unhide RP5).at (o := 0) (v := .int .i64 0) rfl
    have p0 := (unhide RP5).froz 0
    have r1 := (unhide RP5).at (o := 1) (v := .string ⟨#[]⟩) rfl
    have p1 := (unhide RP5).froz 1
    have r2 := (unhide RP5).at (o := 2) (v := .string ⟨#[]⟩) rfl
    have p2 := (unhide RP5).froz 2
    have r3 := (unhide RP5).at (o := 3) (v := .int .i64 0) rfl
    have p3 := (unhide RP5).froz 3
    have rz := (unhide RP5).lt
    go_wp2_with fail
    try simp only [Exit.inBlock, Exit.then]
    have qe := fun (r : SessReplyT) => (unhide PE).end4 (unhide RP5) rfl (by omega) (by omega) r
    exact bodyPost_ret (ret_reply rfl _ _ (w.heap.size + 1) (encR ⟨r0', r1', r2', r3'⟩) rfl rfl (qe ⟨r0', r1', r2', r3'⟩).1) rfl ⟨by rw [← unhide HR], (qe ⟨r0', r1', r2', r3'⟩).2⟩
end
end Go.Proofs.YtppkgcedkdeccaaDoor
