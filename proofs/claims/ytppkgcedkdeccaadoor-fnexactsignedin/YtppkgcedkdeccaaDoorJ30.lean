/- LPp, LPq, LPr, one behind the other. -/
import Derived.Test.YtppkgcedkdeccaaDoorJ29
/- Sessions: a raise, by the program (the walk). -/
namespace Go.Proofs.YtppkgcedkdeccaaDoor
set_option linter.unusedSimpArgs false
set_option linter.unusedVariables false
set_option maxRecDepth 20000
open Go.RowKit Go.Maps

theorem idsL_set (l : List SxT) (j : Nat) (s : SxT) (hj : j < l.length) (e : s.ids = l[j].ids) : idsL (l.set j s) = idsL l := by
  unfold idsL
  rw [List.map_set, e]
  have q : (l[j]).ids = (l.map (·.ids))[j]'(by simpa using hj) := by simp
  rw [q, List.set_getElem_self]
def levX (s : SxT) (t : Int) : SxT := { s with last := t, level := min (s.level + 1) 9 }
def raiX (s : SxT) (t : Int) (I : ByteArray) : SxT := { s with last := t, level := min (s.level + 1) 9, ids := s.ids ++ [I] }
section
variable {w0 w : World} {b : Nat} {ka : Option Addr} {kl kc : Nat} {x : SsT} {mo me : Nat} {ov : Value} {Q : List BlT} {M : ByteArray → Option Value} {n : Nat}
theorem give_at (h : PsAt w0 w b ka kl kc x mo me ov Q M n) {j : Nat} (hj : j < Q.length) (hg : x.given ≤ 999) (hz : ∀ l ∈ idsL x.list, idOf x.key (x.given + 1) ∉ l) (hK : D.SlB w0 w0.heap.size ka kl x.key) (hkl : kl ≤ 64) (hM : D.Mults w0) (hT : Tab w0) :
    Calls Tryd.prog 67 #[.pointer (some ⟨b, 0, none⟩), .pointer (some ⟨Q[j].sb, 0, none⟩)] w fun e w' => e = .returned (.tuple #[]) ∧ RowIs w' Q[j].sb (sC { (x.list[j]'(h.okQ hj)) with ids := (x.list[j]'(h.okQ hj)).ids ++ [idOf x.key (x.given + 1)] } Q[j]) 103 ∧ PsAt w0 w' b ka kl kc { x with given := x.given + 1, list := x.list.set j { (x.list[j]'(h.okQ hj)) with ids := (x.list[j]'(h.okQ hj)).ids ++ [idOf x.key (x.given + 1)] } } mo me ov Q M n ∧ Tch StI w0.heap.size w w' := by
  have hjx := h.okQ hj
  have rj := h.ses j hj hjx
  have low := h.lows j hj
  have lom := h.lom
  have lo := h.lo
  have bl : ∀ w', But3 b Q[j].sb mo w w' → Below w0.heap.size w0 w' := fun w' hB => h.bel.trans (hB.below lo (by omega) (by omega) h.bel.size)
  have ms : mo ≠ Q[j].sb := by
    obtain ⟨es, cl, em⟩ := h.idm.is
    intro e
    unfold RowIs at rj
    rw [← e, em] at rj
    cases rj
  refine (giveId_low b Q[j].sb mo me x.given ka kl kc x ov (lastI (x.list[j]'hjx).ids) (.string (x.list[j]'hjx).user) (.string (x.list[j]'hjx).device) (.int .i64 (x.list[j]'hjx).level) (.int .i64 (x.list[j]'hjx).login) (.int .i64 (x.list[j]'hjx).last) (.chan (some Q[j].en)) (.chan (some Q[j].ev)) (idMap x Q) w h.box rj (by omega) h.idm (by omega) ⟨by omega, ms⟩ ((hK.keepB h.bel).mono lo) hkl (by omega) (fun w' hB => mults_of hM (bl w' hB)) (fun w' hB => tab_of hT (bl w' hB))).mono ?_
  rintro e w' ⟨a1, a2, a3, a4, a5⟩
  have r3 : RowIs w' Q[j].sb (sC { (x.list[j]'hjx) with ids := (x.list[j]'hjx).ids ++ [idOf x.key (x.given + 1)] } Q[j]) 103 := by
    unfold sC
    simp only [lastI_snoc]
    exact a3
  exact ⟨a1, r3, h.give hj _ hz a2 r3 a4 a5, h.tch3 hj a5⟩
set_option maxHeartbeats 4000000 in
theorem use_raise (h : PsAt w0 w b ka kl kc x mo me ov Q M n) (hn : n ≤ x.given) {j : Nat} (hj : j < Q.length) (hlv : 1 ≤ (x.list[j]'(h.okQ hj)).level ∧ (x.list[j]'(h.okQ hj)).level ≤ 9) (hg : x.given ≤ 999) (hz : ∀ l ∈ idsL x.list, idOf x.key (x.given + 1) ∉ l) (hK : D.SlB w0 w0.heap.size ka kl x.key) (hkl : kl ≤ 64) (hM : D.Mults w0) (hT : Tab w0) :
    Calls Tryd.prog 61 #[.pointer (some ⟨b, 0, none⟩), .pointer (some ⟨Q[j].sb, 0, none⟩), .int .i64 3] w fun e w' => e = .returned (.tuple #[]) ∧ RowIs w' Q[j].sb (sC (raiX (x.list[j]'(h.okQ hj)) x.now (idOf x.key (x.given + 1))) Q[j]) 103 ∧ PsEnd w0 w b ka kl kc { x with given := x.given + 1, list := x.list.set j (raiX (x.list[j]'(h.okQ hj)) x.now (idOf x.key (x.given + 1))) } mo me w' := by
  have hjx := h.okQ hj
  have rj := h.ses j hj hjx
  obtain ⟨W2, hW2⟩ : ∃ W, W = w.setCell ⟨Q[j].sb, 5, none⟩ (.int .i64 x.now) := ⟨_, rfl⟩
  have H2 : PsAt w0 W2 b ka kl kc { x with list := x.list.set j (lastX (x.list[j]'hjx) x.now) } mo me ov Q M n := by rw [hW2]; exact h.setX hj 5 (.int .i64 x.now) (lastX (x.list[j]'hjx) x.now) rfl rfl rfl rfl
  have T2 : Tch StI w0.heap.size w W2 := by rw [hW2]; exact h.tchX hj 5 (.int .i64 x.now)
  have R2 : RowIs W2 Q[j].sb (sC (lastX (x.list[j]'hjx) x.now) Q[j]) 103 := by rw [hW2]; exact rj.set 5 (.int .i64 x.now)
  obtain ⟨W3, hW3⟩ : ∃ W, W = W2.setCell ⟨Q[j].sb, 3, none⟩ (.int .i64 (min ((x.list[j]'hjx).level + 1) 9)) := ⟨_, rfl⟩
  have H3 := H2.setX hj 3 (.int .i64 (min ((x.list[j]'hjx).level + 1) 9)) (levX (x.list[j]'hjx) x.now) (by simp only [set_same]; rfl) (by simp only [set_same]; rfl) (by simp only [set_same]; rfl) (by simp only [set_same]; rfl)
  have T3 := hide (T2.trans (H2.tchX hj 3 (.int .i64 (min ((x.list[j]'hjx).level + 1) 9))))
  simp only [set_again] at H3
  rw [← hW3] at H3 T3
  have qg := give_at H3 hj hg (by intro l hl; refine hz l ?_; rw [← idsL_set x.list j (levX (x.list[j]'hjx) x.now) hjx rfl]; exact hl) hK hkl hM hT
  simp only [set_same, set_again] at qg
  have QG := hide qg
  have HW2 := hide hW2.symm
  have HW3 := hide hW3.symm
  have wr : IntKind.i64.wrap ((x.list[j]'hjx).level + 1) = (x.list[j]'hjx).level + 1 := by rw [IntKind.wrap_i64]; omega
  have c3 := h.box.at (o := 3) (v := .int .i64 x.now) rfl
  have cz := h.box.lt
  have s5 := rj.at (o := 5) (v := .int .i64 (x.list[j]'hjx).last) rfl
  have f5 := rj.froz 5
  have sz := rj.lt
  have s3 := R2.at (o := 3) (v := .int .i64 (x.list[j]'hjx).level) rfl
  have f3 := R2.froz 3
  have s3z := R2.lt
  clear rj H2 T2 R2 qg hW2 hW3 H3
  go_enter Tryd.func61, Tryd.ntmps61
  go_upto_region 1 with fail
  refine wp_world (unhide HW2) ?_
  clear HW2
  go_upto_region 4 with fail
  refine wp_world (unhide HW3) ?_
  clear HW3
  go_wp2_with fail
  refine (unhide QG).mono ?_
  rintro e w5 ⟨rfl, hr5, he5, ht5⟩
  have HR := hide hr5
  have HE := hide he5
  have HT := hide ht5
  clear hr5 he5 ht5
  go_wp2_with fail
  go_end0
  exact ⟨rfl, unhide HR, ⟨ov, Q, M, n, by show n ≤ x.given + 1; omega, unhide HE⟩, (unhide T3).trans (unhide HT)⟩
end
end Go.Proofs.YtppkgcedkdeccaaDoor
/- Sessions: an answer, by the program. -/
namespace Go.Proofs.YtppkgcedkdeccaaDoor
set_option linter.unusedSimpArgs false
set_option linter.unusedVariables false
set_option maxRecDepth 20000
open Go.RowKit Go.Maps


section
variable {w0 w : World} {b : Nat} {ka : Option Addr} {kl kc : Nat} {x : SsT} {mo me : Nat} {ov : Value} {Q : List BlT} {M : ByteArray → Option Value} {n : Nat}
theorem PsEnd.set1 {x' : SsT} {w5 : World} {g : Nat} {C : Array Value} (h : PsEnd w0 w b ka kl kc x' mo me w5) (hr : RowIs w5 g C 31) (hb : b ≤ w.heap.size) (hg : w.heap.size ≤ g) (o : Nat) (v : Value) : PsEnd w0 w b ka kl kc x' mo me (w5.setCell ⟨g, o, Option.none⟩ v) := by
  obtain ⟨⟨ov', Q', M', n', h1, h2⟩, h3⟩ := h
  have lo := h2.lo
  exact ⟨⟨ov', Q', M', n', h1, h2.setOut hr (by unfold StI; decide) (by omega) o v⟩, h3.setNew hg (by omega) o v⟩
theorem PsEnd.end4 {x' : SsT} {w5 : World} {g : Nat} {C : Array Value} (h : PsEnd w0 w b ka kl kc x' mo me w5) (hr : RowIs w5 g C 31) (hC : C.size = 4) (hb : b ≤ w.heap.size) (hg : w.heap.size ≤ g) (r : SessReplyT) :
    RowIs ((((w5.setCell ⟨g, 0, Option.none⟩ (.int .i64 r.f0)).setCell ⟨g, 1, Option.none⟩ (.string r.f1)).setCell ⟨g, 2, Option.none⟩ (.string r.f2)).setCell ⟨g, 3, Option.none⟩ (.int .i64 r.f3)) g (encR r) 31 ∧
    PsEnd w0 w b ka kl kc x' mo me ((((w5.setCell ⟨g, 0, Option.none⟩ (.int .i64 r.f0)).setCell ⟨g, 1, Option.none⟩ (.string r.f1)).setCell ⟨g, 2, Option.none⟩ (.string r.f2)).setCell ⟨g, 3, Option.none⟩ (.int .i64 r.f3)) := by
  have r1 := hr.set 0 (.int .i64 r.f0)
  have r2 := r1.set 1 (.string r.f1)
  have r3 := r2.set 2 (.string r.f2)
  have r4 := r3.set 3 (.int .i64 r.f3)
  have e : ((((C.setIfInBounds 0 (.int .i64 r.f0)).setIfInBounds 1 (.string r.f1)).setIfInBounds 2 (.string r.f2)).setIfInBounds 3 (.int .i64 r.f3)) = encR r := by
    obtain ⟨l⟩ := C
    simp at hC
    match l, hC with
    | [a, b, c, d], _ => rfl
  rw [e] at r4
  exact ⟨r4, (((h.set1 hr hb hg 0 _).set1 r1 hb hg 1 _).set1 r2 hb hg 2 _).set1 r3 hb hg 3 _⟩
def AnsIs (w0 w : World) (b : Nat) (ka : Option Addr) (kl kc : Nat) (x' : SsT) (mo me : Nat) (r : SessReplyT) (e : Ending) (w' : World) : Prop := e = .returned (.agg (encR r)) ∧ PsEnd w0 w b ka kl kc x' mo me w'
set_option maxHeartbeats 4000000 in
theorem ans_unfit (h : PsAt w0 w b ka kl kc x mo me ov Q M n) (hn : n ≤ x.given) (k t : Int) (u d i : ByteArray) (hu : u.size ≤ maxLen) (hd : d.size ≤ maxLen) (hf : fitE k t u d i = false) :
    Calls Tryd.prog 52 #[.pointer (some ⟨b, 0, none⟩), .agg #[.int .i64 k, .int .i64 t, .string u, .string d, .string i]] w (AnsIs w0 w b ka kl kc x mo me (errR 1)) := by
  have hbz := h.box.lt
  obtain ⟨W1, hW1⟩ : ∃ W, W = w.alloc (.cells #[.int .i64 k, .int .i64 t, .string u, .string d, .string i] 34) := ⟨_, rfl⟩
  obtain ⟨W2, hW2⟩ : ∃ W, W = W1.alloc (.cells #[.int .i64 0, .string ⟨#[]⟩, .string ⟨#[]⟩, .int .i64 0] 31) := ⟨_, rfl⟩
  have z1 : W1.heap.size = w.heap.size + 1 := by rw [hW1]; simp
  have b1 : Below w.heap.size w W1 := by rw [hW1]; exact bAl (Below.refl _ _) _
  have b12 : Below W1.heap.size W1 W2 := by rw [hW2]; exact bAl (Below.refl _ _) _
  have b2 : Below w.heap.size w W2 := by rw [hW2]; exact bAl b1 _
  have RE0 : RowIs W1 w.heap.size #[.int .i64 k, .int .i64 t, .string u, .string d, .string i] 34 := by rw [hW1]; exact RowIs.new _ _ _
  have RE := hide (RE0.keep b12)
  have RP := hide (show RowIs W2 (w.heap.size + 1) #[.int .i64 0, .string ⟨#[]⟩, .string ⟨#[]⟩, .int .i64 0] 31 by rw [hW2, ← z1]; exact RowIs.new _ _ _)
  have HW := hide (show (w.alloc (.cells #[.int .i64 k, .int .i64 t, .string u, .string d, .string i] 34)).alloc (.cells #[.int .i64 0, .string ⟨#[]⟩, .string ⟨#[]⟩, .int .i64 0] 31) = W2 by rw [hW2, hW1])
  have H2 := hide (h.keep b2)
  have T2 := hide (h.tch b2)
  have e0 := (unhide RE).at (o := 0) (v := .int .i64 k) rfl
  have e1 := (unhide RE).at (o := 1) (v := .int .i64 t) rfl
  have e2 := (unhide RE).at (o := 2) (v := .string u) rfl
  have e3 := (unhide RE).at (o := 3) (v := .string d) rfl
  have e4 := (unhide RE).at (o := 4) (v := .string i) rfl
  have ez := (unhide RE).lt
  have qf := form_any k t u d i W2 hu hd
  clear hW1 hW2 b1 b12 b2 RE0
  rw [hf] at qf
  go_enter Tryd.func52, Tryd.ntmps52
  go_upto_region 1 with fail
  refine wp_world (unhide HW) ?_
  clear HW
  go_wp2_with fail
  refine qf.mono ?_
  rintro e w5 ⟨rfl, hb5⟩
  have RP5 := hide ((unhide RP).keep hb5)
  have PE := hide (show PsEnd w0 w b ka kl kc x mo me w5 from ⟨⟨ov, Q, M, n, hn, (unhide H2).keep hb5⟩, (unhide T2).trans ((unhide H2).tch hb5)⟩)
  clear hb5 qf
  have r0 := (unhide RP5).at (o := 0) (v := .int .i64 0) rfl
  have p0 := (unhide RP5).froz 0
  have r1 := (unhide RP5).at (o := 1) (v := .string ⟨#[]⟩) rfl
  have p1 := (unhide RP5).froz 1
  have r2 := (unhide RP5).at (o := 2) (v := .string ⟨#[]⟩) rfl
  have p2 := (unhide RP5).froz 2
  have r3 := (unhide RP5).at (o := 3) (v := .int .i64 0) rfl
  have p3 := (unhide RP5).froz 3
  have rz := (unhide RP5).lt
  go_wp2_with fail
  try simp only [Exit.inBlock, Exit.then]
  have qe := fun (r : SessReplyT) => (unhide PE).end4 (unhide RP5) rfl (by omega) (by omega) r
  exact bodyPost_ret (ret_reply rfl _ _ (w.heap.size + 1) (encR (errR 1)) rfl rfl (qe (errR 1)).1) rfl ⟨rfl, (qe (errR 1)).2⟩
end
end Go.Proofs.YtppkgcedkdeccaaDoor
/- Sessions: answers, past and all. -/
namespace Go.Proofs.YtppkgcedkdeccaaDoor
set_option linter.unusedSimpArgs false
set_option linter.unusedVariables false
set_option maxRecDepth 20000
open Go.RowKit Go.Maps

section
variable {w0 w : World} {b : Nat} {ka : Option Addr} {kl kc : Nat} {x : SsT} {mo me : Nat} {ov : Value} {Q : List BlT} {M : ByteArray → Option Value} {n : Nat}
set_option maxHeartbeats 4000000 in
theorem ans_past (h : PsAt w0 w b ka kl kc x mo me ov Q M n) (hn : n ≤ x.given) (k t : Int) (u d i : ByteArray) (hu : u.size ≤ maxLen) (hd : d.size ≤ maxLen) (hf : fitE k t u d i = true) (ht : t < x.now) :
    Calls Tryd.prog 52 #[.pointer (some ⟨b, 0, none⟩), .agg #[.int .i64 k, .int .i64 t, .string u, .string d, .string i]] w (AnsIs w0 w b ka kl kc x mo me (errR 2)) := by
  have hbz := h.box.lt
  obtain ⟨W1, hW1⟩ : ∃ W, W = w.alloc (.cells #[.int .i64 k, .int .i64 t, .string u, .string d, .string i] 34) := ⟨_, rfl⟩
  obtain ⟨W2, hW2⟩ : ∃ W, W = W1.alloc (.cells #[.int .i64 0, .string ⟨#[]⟩, .string ⟨#[]⟩, .int .i64 0] 31) := ⟨_, rfl⟩
  have z1 : W1.heap.size = w.heap.size + 1 := by rw [hW1]; simp
  have b1 : Below w.heap.size w W1 := by rw [hW1]; exact bAl (Below.refl _ _) _
  have b12 : Below W1.heap.size W1 W2 := by rw [hW2]; exact bAl (Below.refl _ _) _
  have b2 : Below w.heap.size w W2 := by rw [hW2]; exact bAl b1 _
  have RE0 : RowIs W1 w.heap.size #[.int .i64 k, .int .i64 t, .string u, .string d, .string i] 34 := by rw [hW1]; exact RowIs.new _ _ _
  have RE := hide (RE0.keep b12)
  have RP := hide (show RowIs W2 (w.heap.size + 1) #[.int .i64 0, .string ⟨#[]⟩, .string ⟨#[]⟩, .int .i64 0] 31 by rw [hW2, ← z1]; exact RowIs.new _ _ _)
  have HW := hide (show (w.alloc (.cells #[.int .i64 k, .int .i64 t, .string u, .string d, .string i] 34)).alloc (.cells #[.int .i64 0, .string ⟨#[]⟩, .string ⟨#[]⟩, .int .i64 0] 31) = W2 by rw [hW2, hW1])
  have H2 := hide (h.keep b2)
  have T2 := hide (h.tch b2)
  have e0 := (unhide RE).at (o := 0) (v := .int .i64 k) rfl
  have e1 := (unhide RE).at (o := 1) (v := .int .i64 t) rfl
  have e2 := (unhide RE).at (o := 2) (v := .string u) rfl
  have e3 := (unhide RE).at (o := 3) (v := .string d) rfl
  have e4 := (unhide RE).at (o := 4) (v := .string i) rfl
  have ez := (unhide RE).lt
  have qf := form_any k t u d i W2 hu hd
  clear hW1 hW2 b1 b12 b2 RE0
  rw [hf] at qf
  have c3 := hide (fun (w' : World) (hb : Below W2.heap.size W2 w') => ((unhide H2).keep hb).box.at (o := 3) (v := .int .i64 x.now) rfl)
  have cz := hide (fun (w' : World) (hb : Below W2.heap.size W2 w') => ((unhide H2).keep hb).box.lt)
  go_enter Tryd.func52, Tryd.ntmps52
  go_upto_region 1 with fail
  refine wp_world (unhide HW) ?_
  clear HW
  go_wp2_with fail
  refine qf.mono ?_
  rintro e w5 ⟨rfl, hb5⟩
  have B5 := hide (show Below W2.heap.size W2 w5.drew from bTr hb5 (Below.refl _ _).drew)
  have RE5 := (unhide RE).keep hb5
  have f1 := RE5.at (o := 1) (v := .int .i64 t) rfl
  have fz := RE5.lt
  have c35 := unhide c3 _ hb5
  have z35 := unhide cz _ hb5
  clear hb5 qf RE5
  go_wp2_with fail
  go_region
  all_goals
    obtain ⟨W6, hW6⟩ : ∃ W, W = w5.drew := ⟨_, rfl⟩
    rw [← hW6] at B5 ⊢
    have RP5 := hide ((unhide RP).keep (unhide B5))
    have PE := hide (show PsEnd w0 w b ka kl kc x mo me W6 from ⟨⟨ov, Q, M, n, hn, (unhide H2).keep (unhide B5)⟩, (unhide T2).trans ((unhide H2).tch (unhide B5))⟩)
    clear hW6
    have r0 := (unhide RP5).at (o := 0) (v := .int .i64 0) rfl
    have p0 := (unhide RP5).froz 0
    have r1 := (unhide RP5).at (o := 1) (v := .string ⟨#[]⟩) rfl
    have p1 := (unhide RP5).froz 1
    have r2 := (unhide RP5).at (o := 2) (v := .string ⟨#[]⟩) rfl
    have p2 := (unhide RP5).froz 2
    have r3 := (unhide RP5).at (o := 3) (v := .int .i64 0) rfl
    have p3 := (unhide RP5).froz 3
    have rz := (unhide RP5).lt
    go_wp2_with fail
    try simp only [Exit.inBlock, Exit.then]
    have qe := fun (r : SessReplyT) => (unhide PE).end4 (unhide RP5) rfl (by omega) (by omega) r
    exact bodyPost_ret (ret_reply rfl _ _ (w.heap.size + 1) (encR (errR 2)) rfl rfl (qe (errR 2)).1) rfl ⟨rfl, (qe (errR 2)).2⟩
end
end Go.Proofs.YtppkgcedkdeccaaDoor
