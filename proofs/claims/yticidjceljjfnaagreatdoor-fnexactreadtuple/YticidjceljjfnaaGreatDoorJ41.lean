/- TSp, BSr, one behind the other. -/
import Derived.Test.YticidjceljjfnaaGreatDoorJ37
import Derived.Test.YticidjceljjfnaaGreatDoorJ40
import Derived.Deep.AppendLies
/- spec.ReadTuple: l7Until, l7Behind; what is known of its guess (pure). -/
namespace Go.Proofs.YticidjceljjfnaaGreatDoor.V
open Go.RowKit
set_option maxRecDepth 20000

structure UnIs (st s A B : ByteArray) : Prop where
  ea : A.data.toList = unA st.data.toList s.data.toList
  eb : B.data.toList = unB st.data.toList s.data.toList
  a : A.size ≤ s.size
  b : B.size ≤ s.size
theorem until2 (st s : ByteArray) (w : World) (hs : s.size ≤ 1048576) (ht : st.size ≤ 100) :
    Calls Tryz.prog 21 #[.string s, .string st] w fun e w' => (∃ A B, e = .returned (.tuple #[.string A, .string B]) ∧ Hid (UnIs st s A B)) ∧ Below w.heap.size w w' :=
  (l7Until_any s st w hs ht).mono fun e w' ⟨he, hb⟩ => ⟨⟨_, _, he, hide ⟨rfl, rfl, by
    show (s.data.toList.take _).toArray.size ≤ _
    simp; exact Nat.min_le_right _ _, by
    show (s.data.toList.drop _).toArray.size ≤ _
    simp⟩⟩, hb⟩
theorem drop1_of {s : ByteArray} (h : ¬ s = e0) : ∃ c, s.data.toList = c :: (s.extract 1 s.size).data.toList := by
  rw [cut_drop]
  cases hl : s.data.toList with
  | nil => exact absurd (emp_list.2 hl) h
  | cons c r => exact ⟨c, by simp⟩
theorem pos_of {s : ByteArray} (h : ¬ s = e0) : 1 ≤ s.size := Nat.pos_of_ne_zero (fun k => h (emp_list.2 (List.eq_nil_of_length_eq_zero (by simpa using k))))
theorem behind2 (s : ByteArray) (w : World) (hs : s.size ≤ 1048576) :
    Calls Tryz.prog 22 #[.string s] w fun e w' => (∃ A, e = .returned (.string A) ∧ Hid (A.data.toList = s.data.toList.drop 1 ∧ A.size ≤ s.size)) ∧ Below w.heap.size w w' := by
  by_cases h : s = e0
  · subst h
    go_enter Tryz.func22, Tryz.ntmps22
    go_wp2_with fail
    go_ret
    exact ⟨⟨_, rfl, hide ⟨rfl, Nat.le_refl _⟩⟩, Below.refl _ _⟩
  · have hn := ne_list h
    have hp := pos_of h
    have i1 : (1 : Int) ≤ (s.size : Int) := by omega
    have fin := hide (show (s.extract 1 s.size).data.toList = s.data.toList.drop 1 ∧ (s.extract 1 s.size).size ≤ s.size from ⟨by rw [cut_drop], by simp⟩)
    clear h hp
    go_enter Tryz.func22, Tryz.ntmps22
    go_wp2_with fail
    go_ret
    exact ⟨⟨_, rfl, fin⟩, Below.refl _ _⟩

structure Sp1 (s A1 A2 A3 A4 A5 B5 : ByteArray) : Prop where
  fit : ∀ t', Form t' → tupL t' = s.data.toList → A1 = t'.ty ∧ A2 = t'.id ∧ A3 = t'.rel ∧ A4 = t'.sty ∧ A5 = t'.sid ∧ B5.data.toList = srL t' ++ cvL t'
  z1 : A1.size ≤ s.size
  z2 : A2.size ≤ s.size
  z3 : A3.size ≤ s.size
  z4 : A4.size ≤ s.size
  z5 : A5.size ≤ s.size
  z6 : B5.size ≤ s.size
theorem sp1_of {s A1 B1 D1 A2 B2 D2 A3 B3 D3 A4 B4 D4 A5 B5 : ByteArray} (u1 : UnIs ⟨#[58]⟩ s A1 B1) (d1 : D1.data.toList = B1.data.toList.drop 1 ∧ D1.size ≤ B1.size) (u2 : UnIs ⟨#[35]⟩ D1 A2 B2) (d2 : D2.data.toList = B2.data.toList.drop 1 ∧ D2.size ≤ B2.size)
    (u3 : UnIs ⟨#[64]⟩ D2 A3 B3) (d3 : D3.data.toList = B3.data.toList.drop 1 ∧ D3.size ≤ B3.size) (u4 : UnIs ⟨#[58]⟩ D3 A4 B4) (d4 : D4.data.toList = B4.data.toList.drop 1 ∧ D4.size ≤ B4.size) (u5 : UnIs ⟨#[35, 91]⟩ D4 A5 B5) : Sp1 s A1 A2 A3 A4 A5 B5 := by
  have a1 := u1.a; have b1 := u1.b; have a2 := u2.a; have b2 := u2.b; have a3 := u3.a; have b3 := u3.b; have a4 := u4.a; have b4 := u4.b; have a5 := u5.a; have b5 := u5.b
  have x1 := d1.2; have x2 := d2.2; have x3 := d3.2; have x4 := d4.2
  refine ⟨?_, by omega, by omega, by omega, by omega, by omega, by omega⟩
  intro t' hf e
  have c := cuts_fits (l := s.data.toList) ⟨u1.ea, d1.1.trans (by rw [u1.eb]), u2.ea, d2.1.trans (by rw [u2.eb]), u3.ea, d3.1.trans (by rw [u3.eb]), u4.ea, d4.1.trans (by rw [u4.eb]), u5.ea, u5.eb⟩ t' hf e
  obtain ⟨e1, e2, e3, e4, e5, e6⟩ := c
  exact ⟨Go.WideShapes.bytes_inj e1, Go.WideShapes.bytes_inj e2, Go.WideShapes.bytes_inj e3, Go.WideShapes.bytes_inj e4, Go.WideShapes.bytes_inj e5, e6⟩
def Sp2 (s SR REST : ByteArray) : Prop := ∀ t', Form t' → tupL t' = s.data.toList → SR = t'.srel ∧ REST.data.toList = cvL t'
def Sp3 (s CAV : ByteArray) (G : ValT) : Prop := ∀ t' : TupT, t'.Ok → Form t' → tupL t' = s.data.toList → CAV = t'.cav ∧ G = t'.g
theorem sp_guess {s A1 A2 A3 A4 A5 B5 SR REST CAV : ByteArray} {G : ValT} (hs : s.size ≤ 1048576) (h1 : Sp1 s A1 A2 A3 A4 A5 B5) (h2 : Sp2 s SR REST) (h3 : Sp3 s CAV G) (zr : SR.size ≤ s.size) (zc : CAV.size ≤ s.size) (hg : G.Ok) : GuessT s.data.toList ⟨A1, A2, A3, A4, A5, SR, CAV, G⟩ := by
  have hm : (1048576 : Nat) ≤ maxLen := by unfold maxLen; omega
  have z1 := h1.z1; have z2 := h1.z2; have z3 := h1.z3; have z4 := h1.z4; have z5 := h1.z5
  refine ⟨⟨?_, ?_, ?_, ?_, ?_, ?_, ?_, hg⟩, ?_⟩
  · show A1.size ≤ maxLen; omega
  · show A2.size ≤ maxLen; omega
  · show A3.size ≤ maxLen; omega
  · show A4.size ≤ maxLen; omega
  · show A5.size ≤ maxLen; omega
  · show SR.size ≤ maxLen; omega
  · show CAV.size ≤ maxLen; omega
  · intro t' ht hf e
    obtain ⟨e1, e2, e3, e4, e5, _⟩ := h1.fit t' hf e
    obtain ⟨e6, _⟩ := h2 t' hf e
    obtain ⟨e7, e8⟩ := h3 t' ht hf e
    cases t'
    simp only at e1 e2 e3 e4 e5 e6 e7 e8
    rw [e1, e2, e3, e4, e5, e6, e7, e8]
section
variable {s A1 A2 A3 A4 A5 B5 : ByteArray}
theorem sp2_nil (h : Sp1 s A1 A2 A3 A4 A5 B5) (e : B5 = e0) : Sp2 s e0 e0 := fun t' hf k => by
  obtain ⟨_, _, _, _, _, e6⟩ := h.fit t' hf k
  rw [e] at e6
  have e7 : srL t' ++ cvL t' = [] := e6.symm
  have r := rest_not (t := t') (fun r => by rw [e7]; simp)
  rw [e7] at r
  exact ⟨r.1.symm, r.2⟩
theorem sp2_35 (h : Sp1 s A1 A2 A3 A4 A5 B5) {D A6 B6 : ByteArray} (e : B5.data.toList = 35 :: D.data.toList) (u : UnIs ⟨#[91]⟩ D A6 B6) : Sp2 s A6 B6 := fun t' hf k => by
  obtain ⟨_, _, _, _, _, e6⟩ := h.fit t' hf k
  rw [e] at e6
  have r := rest_35 hf e6.symm
  exact ⟨Go.WideShapes.bytes_inj (u.ea.trans r.1), u.eb.trans r.2⟩
theorem sp2_not (h : Sp1 s A1 A2 A3 A4 A5 B5) (e : ∀ r, ¬ B5.data.toList = 35 :: r) : Sp2 s e0 B5 := fun t' hf k => by
  obtain ⟨_, _, _, _, _, e6⟩ := h.fit t' hf k
  have r := rest_not (t := t') (fun r h => e r (e6.trans h))
  exact ⟨r.1.symm, e6.trans r.2⟩
end
theorem sp3_nil {s SR : ByteArray} (h : Sp2 s SR e0) : Sp3 s e0 zVal := fun t' ht hf k => by
  obtain ⟨_, e⟩ := h t' hf k
  have hc := cv_nil e.symm
  have := hf.p7
  rw [hc] at this
  exact ⟨hc.symm, (noV_eq ((told_emp _).1 this)).symm⟩
section
variable {s SR REST D A7 B7 : ByteArray} {c : UInt8} (h : Sp2 s SR REST) (e : REST.data.toList = c :: D.data.toList) (u : UnIs ⟨#[58]⟩ D A7 B7)
theorem sp3_of (h : Sp2 s SR REST) (e : REST.data.toList = c :: D.data.toList) (u : UnIs ⟨#[58]⟩ D A7 B7) (t' : TupT) (hf : Form t') (k : tupL t' = s.data.toList) : ¬ t'.cav = e0 ∧ A7 = t'.cav ∧ B7.data.toList = 58 :: (valL t'.g ++ [93]) := by
  obtain ⟨_, e6⟩ := h t' hf k
  rw [e] at e6
  obtain ⟨h1, h2, h3⟩ := cv_cons hf e6.symm
  exact ⟨h1, Go.WideShapes.bytes_inj (u.ea.trans h2), u.eb.trans h3⟩
theorem sp3_short (h : Sp2 s SR REST) (e : REST.data.toList = c :: D.data.toList) (u : UnIs ⟨#[58]⟩ D A7 B7) (hl : B7.size < 2) : TIs s.data.toList zTup false := t_no (fun t' _ hf k => by
  obtain ⟨_, _, h3⟩ := sp3_of h e u t' hf k
  have := congrArg List.length h3
  simp at this
  omega)
theorem sp3_bad (h : Sp2 s SR REST) (e : REST.data.toList = c :: D.data.toList) (u : UnIs ⟨#[58]⟩ D A7 B7) {v : ValT} (hv : VIs (B7.extract 1 (B7.size - 1)).data.toList v false) : TIs s.data.toList zTup false := t_no (fun t' ht hf k => by
  obtain ⟨h1, _, h3⟩ := sp3_of h e u t' hf k
  rw [mid_ext, h3, mid_of] at hv
  have := (hv.all t'.g ht.g (hf.recd h1).2 rfl).1
  cases this)
theorem sp3_yes (h : Sp2 s SR REST) (e : REST.data.toList = c :: D.data.toList) (u : UnIs ⟨#[58]⟩ D A7 B7) {v : ValT} {ok : Bool} (hv : VIs (B7.extract 1 (B7.size - 1)).data.toList v ok) : Sp3 s A7 v := fun t' ht hf k => by
  obtain ⟨h1, h2, h3⟩ := sp3_of h e u t' hf k
  rw [mid_ext, h3, mid_of] at hv
  exact ⟨h2, (hv.all t'.g ht.g (hf.recd h1).2 rfl).2⟩
end
end Go.Proofs.YticidjceljjfnaaGreatDoor.V
/- spec.ReadValue: records. -/
namespace Go.Proofs.YticidjceljjfnaaGreatDoor.V
open Go.RowKit
set_option maxRecDepth 20000

theorem cut_at {p : List UInt8} {j : Nat} (hj : j < p.length) (h : p[j] = 58) (hn : (58 : UInt8) ∉ p.take j) : cutC 58 p = (p.take j, p.drop (j + 1)) := by
  have e : p = p.take j ++ 58 :: p.drop (j + 1) := by
    have := List.take_append_drop j p
    rw [List.drop_eq_getElem_cons hj, h] at this
    exact this.symm
  have h2 := cutC_app 58 (p.take j) (p.drop (j + 1)) hn
  rw [← e] at h2
  exact h2
theorem take_no {p : List UInt8} {j : Nat} (hj : j < p.length) (h : ¬ p[j] = 58) (hn : (58 : UInt8) ∉ p.take j) : (58 : UInt8) ∉ p.take (j + 1) := by
  rw [List.take_succ_eq_append_getElem hj, List.mem_append, List.mem_singleton]
  rintro (h2 | h2)
  · exact hn h2
  · exact h h2.symm

theorem bDrw {w : World} {o : Obj} (h : Below w.heap.size w (w.alloc o)) : Below w.heap.size w (w.drew.alloc o) := ⟨h.os, h.tape, h.output, h.size, h.block⟩

set_option maxHeartbeats 8000000 in
theorem sReadValue_rec (s : ByteArray) (w : World) (hs : s.size ≤ 60000) (h2 : 2 ≤ s.size) (hc : s[0] = 123) :
    Calls Tryz.prog 23 #[.string s] w fun e w' => VRdRet s.data.toList w.heap.size e w' ∧ Below w.heap.size w w' := by
  have zl : s.data.toList.length = s.size := by simp
  have HX := hide (show ∃ r, s.data.toList = 123 :: r from ⟨_, by have := list_cons (s := s) (by omega); rw [hc] at this; exact this⟩)
  have g6 : decide (60000 < (s.size : Int)) = false := by simp; omega
  have g2 : decide ((s.size : Int) < 2) = false := by simp; omega
  have k91 : (((123 : UInt8).toNat : Int) != 91) = true := by decide
  have k123 : (((123 : UInt8).toNat : Int) != 123) = false := by decide
  have zX : (s.extract 1 (s.size - 1)).size ≤ 1048576 := by rw [ByteArray.size_extract]; omega
  have q1 := hide (fun w => l1Parts_any (s.extract 1 (s.size - 1)) w zX)
  rw [mid_ext s] at q1
  obtain ⟨i0, hi, hz0, hz1, hz2⟩ := info_parts info_atom
  obtain ⟨i1, gi, gz0, gz1, gz2⟩ := info_parts info_str
  have ml : (midL s.data.toList).length ≤ s.size := by unfold midL; rw [List.length_take, List.length_drop]; omega
  go_enter Tryz.func23, Tryz.ntmps23
  go_wp2_with fail
  refine (unhide q1 _).mono ?_
  rintro e w1 ⟨⟨v, R, rfl, hown, hit⟩, hb1⟩
  have HR := hide (two_new w 3 hb1)
  have B1 := hide (two_below w 3 hb1)
  have hbs := hide hown
  obtain ⟨av, cv, ev⟩ := own_sl hown
  subst ev
  clear hown hb1 q1
  have hRl : R.length ≤ 60001 := by have := (unhide hit).len; omega
  have lt1 : w.heap.size + 1 < w1.heap.size := (unhide HR).b.lt
  go_wp2_with fail
  go_loopw [53] (fun i w' => ∃ (k : Nat) (I : List AtomT) (N : List (List UInt8)) (v1 v2 : Value), k ≤ R.length ∧ i = .int .i64 k ∧ I.length = k ∧ N.length = k ∧ w1.heap.size ≤ w'.heap.size ∧ Hid (Two w w' 3 v1 v2) ∧ Hid (w'.ownsRow w1.heap.size 32 4 v1 k (atomsV I)) ∧ Hid (w'.ownsRow w1.heap.size 9 1 v2 k (strsV N)) ∧ Hid (∀ g, v1.ownBlock = some g → v2.ownBlock ≠ some g) ∧ Hid (Below w.heap.size w w') ∧ Hid (w'.ownsRow (w.heap.size + 1 + 1) 9 1 (.slice av R.length cv) R.length (strsV R)) ∧ Hid (RdRec R N I)) (fun i _ => R.length - (intOf i).toNat)
  case atStart => exact ⟨0, [], [], _, _, by omega, rfl, rfl, rfl, Nat.le_refl _, HR, hide (World.ownsRow_nil _ _ _ _), hide (World.ownsRow_nil _ _ _ _), hide (fun g h => by cases h), B1, hide (by simpa using unhide hbs), hide (RdRec.nil R)⟩
  case round =>
    obtain ⟨k, I, N, v1, v2, hk, rfl, hI, hN, hw1, hR, hown, hownN, hdj, hb, hrow, hrd⟩ := hrel
    by_cases hlt : k < R.length
    · rcases (unhide hrow).2 with ⟨_, e2⟩ | ⟨g, cap, cur, hv, hgb, hgc, hn1, hn2, hcs, htk⟩
      · omega
      obtain ⟨p, hp⟩ : ∃ p, R[k] = p := ⟨_, rfl⟩
      have ck : wr.cell? ⟨g, k, none⟩ = some (.string ⟨p.toArray⟩) := by rw [← hp]; exact own_cell hgc htk k hlt
      injection hv with hv1 hv2 hv3
      subst hv1 hv3
      have zp : p.length ≤ s.size := by
        have := (unhide hit).each p (by rw [← hp]; exact List.getElem_mem _)
        omega
      have stp := hide (fun (a : AtomT) (ok : Bool) (ha : AtmIs (cutC 58 p).2 a.x a.n a.t a.y ok) => (unhide hrd).step (by omega) (by simp only [hI]; exact hp) ha)
      have bad := hide (fun (x n : Int) (t y : ByteArray) (ha : AtmIs (cutC 58 p).2 x n t y false) => rec_bad (unhide hit) hlt (unhide HX) (by rw [hp]; exact ha))
      have non := hide (fun (h : (58 : UInt8) ∉ p) => rec_none (unhide hit) hlt (unhide HX) (by rw [hp]; exact h))
      have ck0 := (unhide hR).b.at (o := 0) (v := .int .i64 3) rfl
      have sp : (⟨p.toArray⟩ : ByteArray).size = p.length := sz_arr p
      have lp : (⟨p.toArray⟩ : ByteArray).data.toList = p := rfl
      obtain ⟨Pb, hPb⟩ : ∃ Pb : ByteArray, Pb = ⟨p.toArray⟩ := ⟨_, rfl⟩
      rw [← hPb] at ck sp lp
      clear hgc htk hcs hrd hp hPb
      obtain ⟨W1, hW1⟩ : ∃ W1, W1 = wr := ⟨_, rfl⟩
      subst hW1
      go_wp2_with fail
      go_loopw [10] (fun i w' => ∃ j : Nat, j ≤ p.length ∧ i = .int .i64 j ∧ w' = W1 ∧ Hid ((58 : UInt8) ∉ p.take j)) (fun i _ => p.length - (intOf i).toNat)
      case atStart => exact ⟨0, by omega, rfl, rfl, hide (by simp)⟩
      case round =>
        obtain ⟨j, hj, rfl, hwr, hno⟩ := hrel
        subst hwr
        clear ck ck0
        by_cases hjl : j < p.length
        · obtain ⟨c, hcc⟩ : ∃ c, Pb[j]'(by omega) = c := ⟨_, rfl⟩
          have pc : p[j] = c := by
            have : Pb.data.toList[j]'(by rw [lp]; exact hjl) = c := by rw [← hcc]; rfl
            simpa [lp] using this
          have dl : decide ((j : Int) < (Pb.size : Int)) = true := by simp; omega
          by_cases h58 : c = 58
          · have hcut := cut_at hjl (by rw [pc, h58]) (unhide hno)
            have e58 : ((c.toNat : Int) != 58) = false := by rw [h58]; decide
            have jne : ((j : Int) == (Pb.size : Int)) = false := by rw [beq_eq_false_iff_ne]; omega
            rw [hcut] at stp bad
            simp only at stp bad
            obtain ⟨P1, hP1⟩ : ∃ P1, p.take j = P1 := ⟨_, rfl⟩
            obtain ⟨P2, hP2⟩ : ∃ P2, p.drop (j + 1) = P2 := ⟨_, rfl⟩
            have x1 : Pb.extract 0 j = ⟨P1.toArray⟩ := by rw [cut_take, lp, hP1]
            have x2 : Pb.extract (j + 1) p.length = ⟨P2.toArray⟩ := by rw [← sp, cut_drop, lp, hP2]
            have z2 : P2.length ≤ s.size := by rw [← hP2, List.length_drop]; omega
            rw [hP2] at stp bad
            rw [hP1] at stp
            have q2 := hide (fun w => sReadAtom_any ⟨P2.toArray⟩ w (by rw [sz_arr]; omega))
            obtain ⟨a2, c2, e2⟩ := own_sl (unhide hownN)
            subst e2
            obtain ⟨a1, c1, e1⟩ := own_sl (unhide hown)
            subst e1
            have c6 := (unhide hR).b.at (o := 6) (v := .slice a2 k c2) rfl
            have f6 := (unhide hR).b.froz 6
            have l1 := hide (unhide hown).lt
            have l2 := hide (unhide hownN).lt
            have t2 := hide (cell_one_new wr.drew (.string ⟨P1.toArray⟩) 9)
            have i0' : (0 : Int) ≤ (j : Int) := by omega
            have c6a := ((unhide hR).keep (bAl (Below.refl _ _) (.cells #[.string ⟨P1.toArray⟩] 9))).b.at (o := 6) (v := .slice a2 k c2) rfl
            have nbx : ¬ wr.heap.size = w.heap.size + 1 := by omega
            have t5 : (k + 1) * 16 ≤ 140737488355328 := by omega
            have ne2 := hide (show ∀ g, (Value.slice a2 k c2).ownBlock = some g → w.heap.size + 1 < g from (fun g e => by have := (unhide l2 g e).1; omega))
            have jle : (j : Int) ≤ (Pb.size : Int) := by omega
            have jle1 : (j : Int) + 1 ≤ (Pb.size : Int) := by omega
            clear hcut hno pc h58 non hP1 hP2 lp
            go_wp2_with fail
            go_region_law
              (first
                | (refine step_append_lies _ (by rfl) _ _ _ (by rfl) w1.heap.size 9 i1 _ 1 16 Tryz.underlying25 gi gz0 gz1 gz2 rfl (by omega) (.slice a2 k c2) k (strsV N) (by rfl) ((unhide hownN).drew.alloc _) ⟨wr.heap.size, 0, none⟩ 1 1 [.string ⟨P1.toArray⟩] (by rfl) (by rfl) (unhide t2) (fun x hx => by simp at hx; subst hx; rfl) (by omega) (by unfold maxLen; omega) t5 (by simp; omega) (wr.heap.size + 1) (by simp) ?_; intro g4 cv4 w4 hown4 hgrow4 hat4 hlt4; have R4 := hide (((unhide hR).keep (bDrw (bAl (Below.refl _ _) (.cells #[.string ⟨P1.toArray⟩] 9)))).grown hgrow4 (unhide ne2)); have d6 := (unhide R4).b.at (o := 6) (v := .slice a2 k c2) rfl; have h6 := (unhide R4).b.froz 6))
            all_goals
              have gl : g < w1.heap.size := ((unhide hbs).lt g rfl).2
              have l4 := hown4.lt
              have sz4 : wr.heap.size + 1 ≤ w4.heap.size := by
                have h := hgrow4.size
                have e : (wr.alloc (.cells #[.string ⟨P1.toArray⟩] 9)).drew.heap.size = wr.heap.size + 1 := by show (wr.alloc (.cells #[.string ⟨P1.toArray⟩] 9)).heap.size = _; simp
                rw [e] at h
                exact h
              have dj4 := hide (show ∀ g', (Value.slice a1 k c1).ownBlock = some g' → (Value.slice (some (⟨g4, 0, none⟩ : Addr)) (k + 1) cv4).ownBlock ≠ some g' by
                intro g' e1 e2
                have eg : g4 = g' := by injection e2
                subst eg
                rcases hat4 with h | h
                · exact unhide hdj g4 e1 h
                · have := (unhide l1 g4 e1).2
                  omega)
              obtain ⟨W4, hW4⟩ : ∃ W4, W4 = w4.setCell ⟨w.heap.size + 1, 6, none⟩ (.slice (some ⟨g4, 0, none⟩) (k + 1) cv4) := ⟨_, rfl⟩
              have R5 := hide ((unhide R4).set2 (.slice (some ⟨g4, 0, none⟩) (k + 1) cv4))
              have O5 := hide (own_set (b := w.heap.size + 1) (o := 6) (u := (.slice (some ⟨g4, 0, none⟩) (k + 1) cv4)) (((unhide hown).alloc (.cells #[.string ⟨P1.toArray⟩] 9)).drew.kept hgrow4 (own_or (unhide hdj))) (fun g' e => by have := (unhide l1 g' e).1; omega))
              have N5 := hide (own_set (b := w.heap.size + 1) (o := 6) (u := (.slice (some ⟨g4, 0, none⟩) (k + 1) cv4)) hown4 (fun g' e => by have := (l4 g' e).1; omega))
              have S5 := hide (own_set (b := w.heap.size + 1) (o := 6) (u := (.slice (some ⟨g4, 0, none⟩) (k + 1) cv4)) (((unhide hrow).alloc (.cells #[.string ⟨P1.toArray⟩] 9)).drew.kept hgrow4 (.inr (fun e => by have := (unhide l2 g e.symm).1; omega))) (fun g' e => by have := ((unhide hrow).lt g' e).1; omega))
              have B5 := hide (below_set (o := 6) (v := (.slice (some ⟨g4, 0, none⟩) (k + 1) cv4)) ((bAl (unhide hb) (.cells #[.string ⟨P1.toArray⟩] 9)).drew.grown hgrow4 (by have := (unhide hb).size; show _ ≤ (wr.alloc (.cells #[.string ⟨P1.toArray⟩] 9)).heap.size; simp; omega) (fun j hj => by have := unhide ne2 j hj; omega)) (show w.heap.size ≤ w.heap.size + 1 by omega))
              have sW : w4.heap.size = W4.heap.size := by rw [hW4]; simp [World.setCell]
              have l5 := hide (show ∀ g', (Value.slice (some (⟨g4, 0, none⟩ : Addr)) (k + 1) cv4).ownBlock = some g' → w1.heap.size ≤ g' ∧ g' < W4.heap.size from fun g' e => by have := l4 g' e; omega)
              have E1 : strsV (N ++ [P1]) = strsV N ++ [.string ⟨P1.toArray⟩] := by simp [strsV]
              rw [← E1] at N5
              rw [← hW4] at R5 O5 N5 S5 B5 ⊢
              clear hW4 hown4 hgrow4 hat4 hlt4 R4 d6 h6 l4 c6 f6 c6a t2 hR hown hownN hrow hb hdj l1 l2 E1
              go_wp2_with fail
              try rw [x2]
              refine (unhide q2 _).mono ?_
              rintro e w6 ⟨⟨x, n, t, y, ok, rfl, ha⟩, hb6⟩
              have ba := bAl (Below.refl w6.heap.size w6) (.cells #[.int .i64 x, .int .i64 n, .string t, .string y] 32)
              have l1 := hide (own_keepT (unhide O5) hb6).lt
              have R6 := hide (((unhide R5).keep hb6).keep ba)
              have O6 := hide ((own_keepT (unhide O5) hb6).alloc (.cells #[.int .i64 x, .int .i64 n, .string t, .string y] 32))
              have N6 := hide ((own_keepT (unhide N5) hb6).alloc (.cells #[.int .i64 x, .int .i64 n, .string t, .string y] 32))
              have S6 := hide ((own_keepT (unhide S5) hb6).alloc (.cells #[.int .i64 x, .int .i64 n, .string t, .string y] 32))
              have B6 := hide (bTr (bTr (unhide B5) hb6) ba)
              have RA := hide (RowIs.new w6 #[.int .i64 x, .int .i64 n, .string t, .string y] 32)
              have b6 : W4.heap.size ≤ w6.heap.size := hb6.size
              clear hb6 q2 ba R5 O5 N5 S5 B5
              iterate 20 (try (first | go_values | go_skip | go_guarded | go_step | go_upon | go_simp))
              obtain ⟨W6, hW6⟩ : ∃ W6, W6 = w6.alloc (.cells #[.int .i64 x, .int .i64 n, .string t, .string y] 32) := ⟨_, rfl⟩
              have sz6 : w6.heap.size + 1 = W6.heap.size := by rw [hW6]; simp
              rw [← hW6] at R6 O6 N6 S6 B6 RA ⊢
              clear hW6
              cases ok with
              | false =>
                have ai := hide (unhide bad _ _ _ _ ha)
                clear ha bad stp
                have d0 := ((unhide R6).r).at (o := 0) (v := .int .i64 0) rfl
                have d1 := ((unhide R6).r).at (o := 1) (v := .int .i64 0) rfl
                have d2 := ((unhide R6).r).at (o := 2) (v := .int .i64 0) rfl
                have d3 := ((unhide R6).r).at (o := 3) (v := .string ⟨#[]⟩) rfl
                have d4 := ((unhide R6).r).at (o := 4) (v := .string ⟨#[]⟩) rfl
                have d5 := ((unhide R6).r).at (o := 5) (v := .slice none 0 0) rfl
                have d6 := ((unhide R6).r).at (o := 6) (v := .slice none 0 0) rfl
                have f0 := ((unhide R6).r).froz 0
                have f1 := ((unhide R6).r).froz 1
                have f2 := ((unhide R6).r).froz 2
                have f3 := ((unhide R6).r).froz 3
                have f4 := ((unhide R6).r).froz 4
                have f5 := ((unhide R6).r).froz 5
                have f6 := ((unhide R6).r).froz 6
                go_wp2_with fail
                refine bodyPost_ret (v := .tuple #[VRet zVal (.slice none 0 0) (.slice none 0 0), .bool false]) (by simp [results, Tryz.results23, go_sem, VRet, d0, d1, d2, d3, d4, d5, d6]) rfl ⟨⟨_, _, _, _, rfl, zval_own _ _, ai⟩, below_set7 (unhide B6) (Nat.le_refl _)⟩
              | true =>
                have rd4 := hide (unhide stp ⟨x, n, t, y⟩ true ha)
                have c5 := (unhide R6).b.at (o := 5) (v := .slice a1 k c1) rfl
                have f5 := (unhide R6).b.froz 5
                have x0 := (unhide RA).at (o := 0) (v := .int .i64 x) rfl
                have y1 := (unhide RA).at (o := 1) (v := .int .i64 n) rfl
                have y2 := (unhide RA).at (o := 2) (v := .string t) rfl
                have y3 := (unhide RA).at (o := 3) (v := .string y) rfl
                clear ha bad stp
                have t1 := hide ((unhide O6).alloc (.cells #[.int .i64 x, .int .i64 n, .string t, .string y] 32))
                have t2 := hide (cell_four_new W6 (cellsA ⟨x, n, t, y⟩) 32)
                have T3 := hide (show ∀ u ∈ cellsA ⟨x, n, t, y⟩, u.oneCell' = true from fun u hu => by simp [cellsA] at hu; rcases hu with rfl | rfl | rfl | rfl <;> rfl)
                have T4 := hide (show w1.heap.size ≤ (W6.alloc (.cells #[.int .i64 x, .int .i64 n, .string t, .string y] 32)).heap.size by simp; omega)
                have t6 : (k + 1) * 48 ≤ 140737488355328 := by omega
                go_wp2_with (at_builtin; refine wpList_append_own_at _ rfl _ _ 33 rfl w1.heap.size 32 i0 _ 4 48 Tryz.underlying33 hi hz0 hz1 hz2 rfl (by decide) _ _ _ rfl (unhide t1) ⟨_, 0, none⟩ 1 1 (cellsA ⟨x, n, t, y⟩) rfl rfl (unhide t2) (unhide T3) (by unfold maxLen; omega) t6 (unhide T4) ?_; intro v3 w3 hown3 hgrow3 _ hat3; obtain ⟨av3, cv3, ev3⟩ := own_sl hown3; subst ev3; have ne1 : ∀ g, (Value.slice a1 k c1).ownBlock = some g → w.heap.size + 1 < g := (fun g e => by have := (unhide l1 g e).1; omega); have R7 := hide ((((unhide R6).keep (bAl (Below.refl _ _) (.cells #[.int .i64 x, .int .i64 n, .string t, .string y] 32))).grown hgrow3 ne1)); have d5 := (unhide R7).b.at (o := 5) (v := .slice a1 k c1) rfl; have h5 := (unhide R7).b.froz 5)
                have sz3 : W6.heap.size ≤ w3.heap.size := by have := hgrow3.size; simp at this; omega
                have eh : (W6.alloc (.cells #[.int .i64 x, .int .i64 n, .string t, .string y] 32)).heap.size = W6.heap.size + 1 := by simp
                have dj6 : ∀ g', (Value.slice av3 (k + 1) cv3).ownBlock = some g' → (Value.slice (some (⟨g4, 0, none⟩ : Addr)) (k + 1) cv4).ownBlock ≠ some g' := by
                  intro g' e1 e2
                  rcases hat3 with h | h
                  · rw [h] at e1; exact unhide dj4 g' e1 e2
                  · rw [h, eh] at e1
                    injection e1 with e1
                    have := (unhide l5 g' e2).2
                    omega
                refine ⟨⟨k + 1, I ++ [⟨x, n, t, y⟩], N ++ [P1], _, _, by omega, by simp, by simp [hI], by simp [hN], by simp [World.setCell]; omega, hide ((unhide R7).set1 _), hide ?_, hide ?_, hide dj6, hide ?_, hide ?_, rd4⟩, by simp [intOf]; omega⟩
                · rw [atomsV_snoc]
                  exact own_set hown3 (fun g' e => by have := (hown3.lt g' e).1; omega)
                · exact own_set (((unhide N6).alloc _).kept hgrow3 (own_or (fun g' e1 e2 => unhide dj4 g' e2 e1))) (fun g' e => by have := (unhide l5 g' e).1; omega)
                · exact below_set ((bAl (unhide B6) _).grown hgrow3 (by have := (unhide B6).size; simp; omega) (fun j hj => by have := ne1 j hj; omega)) (by omega)
                · refine own_set (((unhide S6).alloc _).kept hgrow3 (.inr (fun e => ?_))) (fun g' e => ?_)
                  · have := (unhide l1 g e.symm).1
                    omega
                  · have := ((unhide S6).lt g' e).1
                    omega
          · have e58 : ((c.toNat : Int) != 58) = true := by
              have : ¬ (c.toNat : Int) = 58 := fun e => h58 (UInt8.toNat_inj.1 (show c.toNat = 58 by omega))
              simpa using this
            have st := hide (take_no hjl (by rw [pc]; exact h58) (unhide hno))
            clear hno pc h58
            go_wp2_with fail
            exact ⟨⟨j + 1, by omega, by simp, trivial, st⟩, by simp [intOf]; omega⟩
        · have dl : decide ((j : Int) < (Pb.size : Int)) = false := by simp; omega
          have je : ((j : Int) == (Pb.size : Int)) = true := by rw [beq_iff_eq]; omega
          have ai := hide (unhide non (by have := unhide hno; rw [List.take_of_length_le (by omega)] at this; exact this))
          clear hno non
          have d0 := ((unhide hR).r).at (o := 0) (v := .int .i64 0) rfl
          have d1 := ((unhide hR).r).at (o := 1) (v := .int .i64 0) rfl
          have d2 := ((unhide hR).r).at (o := 2) (v := .int .i64 0) rfl
          have d3 := ((unhide hR).r).at (o := 3) (v := .string ⟨#[]⟩) rfl
          have d4 := ((unhide hR).r).at (o := 4) (v := .string ⟨#[]⟩) rfl
          have d5 := ((unhide hR).r).at (o := 5) (v := .slice none 0 0) rfl
          have d6 := ((unhide hR).r).at (o := 6) (v := .slice none 0 0) rfl
          have f0 := ((unhide hR).r).froz 0
          have f1 := ((unhide hR).r).froz 1
          have f2 := ((unhide hR).r).froz 2
          have f3 := ((unhide hR).r).froz 3
          have f4 := ((unhide hR).r).froz 4
          have f5 := ((unhide hR).r).froz 5
          have f6 := ((unhide hR).r).froz 6
          go_wp2_with fail
          refine bodyPost_ret (v := .tuple #[VRet zVal (.slice none 0 0) (.slice none 0 0), .bool false]) (by simp [results, Tryz.results23, go_sem, VRet, d0, d1, d2, d3, d4, d5, d6]) rfl ⟨⟨_, _, _, _, rfl, zval_own _ _, ai⟩, below_set7 (unhide hb) (Nat.le_refl _)⟩
    · have ek : k = R.length := by omega
      have gu := hide (rec_guess (by omega) (unhide hit) (unhide hrd) (by omega) (unhide HX))
      obtain ⟨T, hcall, hT⟩ := vtext ⟨3, zA, I, N.map mkB⟩ (unhide gu).ok
      obtain ⟨a5, c5, e5⟩ := own_sl (unhide hown)
      subst e5
      obtain ⟨a6, c6, e6⟩ := own_sl (unhide hownN)
      subst e6
      have hnn := unhide hownN
      rw [strs_mk] at hnn
      have q5 := hide (hcall a5 a6 k c5 k c6 wr (sla_own (unhide hown)) (sls_own hnn))
      have ve := hide (vis_end (s := s) (by omega) (unhide gu) hT)
      have OW := hide (show VOwn wr w1.heap.size ⟨3, zA, I, N.map mkB⟩ (.slice a5 k c5) (.slice a6 k c6) from ⟨by rw [show (⟨3, zA, I, N.map mkB⟩ : ValT).items.length = k from hI]; exact unhide hown, by rw [show (⟨3, zA, I, N.map mkB⟩ : ValT).names.length = k by show (N.map mkB).length = k; rw [List.length_map]; exact hN]; exact hnn, unhide hdj⟩)
      clear hcall hT hrd ek gu hnn
      have j0 := ((unhide hR).b).at (o := 0) (v := .int .i64 3) rfl
      have j1 := ((unhide hR).b).at (o := 1) (v := .int .i64 0) rfl
      have j2 := ((unhide hR).b).at (o := 2) (v := .int .i64 0) rfl
      have j3 := ((unhide hR).b).at (o := 3) (v := .string ⟨#[]⟩) rfl
      have j4 := ((unhide hR).b).at (o := 4) (v := .string ⟨#[]⟩) rfl
      have j5 := ((unhide hR).b).at (o := 5) (v := .slice a5 k c5) rfl
      have j6 := ((unhide hR).b).at (o := 6) (v := .slice a6 k c6) rfl
      go_wp2_with fail
      refine (unhide q5).mono ?_
      rintro e w5 ⟨rfl, hb5⟩
      replace OW := hide ((unhide OW).keep hb5)
      have R5 := hide ((unhide hR).keep hb5)
      have B5 := hide (bTr (unhide hb) hb5)
      clear hb5 q5 j0 j1 j2 j3 j4 j5 j6 hR hb hown hownN hdj
      by_cases hx : T = s
      · have ai := hide ((unhide ve).1 hx)
        have hx2 : (T.toList == s.toList) = true := by rw [hx]; simp
        clear hx ve
        have d0 := ((unhide R5).r).at (o := 0) (v := .int .i64 0) rfl
        have d1 := ((unhide R5).r).at (o := 1) (v := .int .i64 0) rfl
        have d2 := ((unhide R5).r).at (o := 2) (v := .int .i64 0) rfl
        have d3 := ((unhide R5).r).at (o := 3) (v := .string ⟨#[]⟩) rfl
        have d4 := ((unhide R5).r).at (o := 4) (v := .string ⟨#[]⟩) rfl
        have d5 := ((unhide R5).r).at (o := 5) (v := .slice none 0 0) rfl
        have d6 := ((unhide R5).r).at (o := 6) (v := .slice none 0 0) rfl
        have f0 := ((unhide R5).r).froz 0
        have f1 := ((unhide R5).r).froz 1
        have f2 := ((unhide R5).r).froz 2
        have f3 := ((unhide R5).r).froz 3
        have f4 := ((unhide R5).r).froz 4
        have f5 := ((unhide R5).r).froz 5
        have f6 := ((unhide R5).r).froz 6
        have j0 := ((unhide R5).b).at (o := 0) (v := .int .i64 3) rfl
        have j1 := ((unhide R5).b).at (o := 1) (v := .int .i64 0) rfl
        have j2 := ((unhide R5).b).at (o := 2) (v := .int .i64 0) rfl
        have j3 := ((unhide R5).b).at (o := 3) (v := .string ⟨#[]⟩) rfl
        have j4 := ((unhide R5).b).at (o := 4) (v := .string ⟨#[]⟩) rfl
        have j5 := ((unhide R5).b).at (o := 5) (v := .slice a5 k c5) rfl
        have j6 := ((unhide R5).b).at (o := 6) (v := .slice a6 k c6) rfl
        go_wp2_with fail
        refine bodyPost_ret (v := .tuple #[VRet ⟨3, zA, I, N.map mkB⟩ (.slice a5 k c5) (.slice a6 k c6), .bool true]) (by simp [results, Tryz.results23, go_sem, VRet, d0, d1, d2, d3, d4, d5, d6]) rfl ⟨⟨_, _, _, _, rfl, (unhide OW).set7 (by omega) (by omega), ai⟩, below_set7 (unhide B5) (Nat.le_refl _)⟩
      · have ai := hide ((unhide ve).2 hx)
        have hx2 : (T.toList == s.toList) = false := by simpa using str_neq hx
        clear hx ve
        have d0 := ((unhide R5).r).at (o := 0) (v := .int .i64 0) rfl
        have d1 := ((unhide R5).r).at (o := 1) (v := .int .i64 0) rfl
        have d2 := ((unhide R5).r).at (o := 2) (v := .int .i64 0) rfl
        have d3 := ((unhide R5).r).at (o := 3) (v := .string ⟨#[]⟩) rfl
        have d4 := ((unhide R5).r).at (o := 4) (v := .string ⟨#[]⟩) rfl
        have d5 := ((unhide R5).r).at (o := 5) (v := .slice none 0 0) rfl
        have d6 := ((unhide R5).r).at (o := 6) (v := .slice none 0 0) rfl
        have f0 := ((unhide R5).r).froz 0
        have f1 := ((unhide R5).r).froz 1
        have f2 := ((unhide R5).r).froz 2
        have f3 := ((unhide R5).r).froz 3
        have f4 := ((unhide R5).r).froz 4
        have f5 := ((unhide R5).r).froz 5
        have f6 := ((unhide R5).r).froz 6
        go_wp2_with fail
        refine bodyPost_ret (v := .tuple #[VRet zVal (.slice none 0 0) (.slice none 0 0), .bool false]) (by simp [results, Tryz.results23, go_sem, VRet, d0, d1, d2, d3, d4, d5, d6]) rfl ⟨⟨_, _, _, _, rfl, zval_own _ _, ai⟩, below_set7 (unhide B5) (Nat.le_refl _)⟩
end Go.Proofs.YticidjceljjfnaaGreatDoor.V
