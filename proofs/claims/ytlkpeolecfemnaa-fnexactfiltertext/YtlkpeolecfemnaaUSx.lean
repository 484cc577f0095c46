/- spec.l3FilterText. -/
import Derived.Test.YtlkpeolecfemnaaUTx
import Derived.Deep.CutBlock
import Derived.Deep.DeepCutAuto
namespace Go.Proofs.Ytlkpeolecfemnaa.V
open Go.RowKit Go.Maps

def tb (l : List UInt8) : ByteArray := ⟨l.toArray⟩
theorem tb_size (l : List UInt8) : (tb l).size = l.length := by simp [tb, ByteArray.size]
theorem tb_app (a b : List UInt8) : tb a ++ tb b = tb (a ++ b) := by
  apply ByteArray.ext
  apply Array.toList_inj.1
  simp [tb, ByteArray.data_append]
theorem tb_of (s : ByteArray) : tb s.data.toList = s := by
  apply ByteArray.ext
  simp [tb]
theorem tb_get0 (c : UInt8) (l : List UInt8) (h : 0 < (tb (c :: l)).size) : (tb (c :: l))[0]'h = c := rfl
theorem name_le {s : ByteArray} (h : goodName s = true) : s.size ≤ 30 := by
  unfold goodName nameL at h
  simp at h
  omega
theorem esc_ne {l : List UInt8} (h : l ≠ []) : esc fSig l ≠ [] := by
  cases l with
  | nil => exact absurd rfl h
  | cons c l => simp [esc]
theorem plain_if {c : UInt8} {l : List UInt8} : plainB (c :: l) = if c = 42 ∨ c = 126 then 92 :: c :: l else c :: l := by simp [plainB]

theorem NodeP.name {x : FilterNodeT} (h : NodeP x) (k1 : ¬ x.f0 = 1) (k2 : ¬ x.f0 = 2) (k3 : ¬ x.f0 = 3) : x.f1.size ≤ 30 := by
  unfold NodeP at h
  rw [if_neg (by omega), if_neg k3] at h
  split at h
  · exact name_le h.1
  · split at h
    · exact name_le h.1
    · cases h
theorem NodeP.text {x : FilterNodeT} (h : NodeP x) (k1 : ¬ x.f0 = 1) (k2 : ¬ x.f0 = 2) (k3 : ¬ x.f0 = 3) (k7 : ¬ x.f0 = 7) : 1 ≤ x.f2.size ∧ x.f2.size ≤ 200 := by
  unfold NodeP at h
  rw [if_neg (by omega), if_neg k3, if_neg k7] at h
  split at h
  · exact ⟨h.2.1.1, h.2.1.2.1⟩
  · cases h
theorem NodeP.four {x : FilterNodeT} (h : NodeP x) (k1 : ¬ x.f0 = 1) (k2 : ¬ x.f0 = 2) (k3 : ¬ x.f0 = 3) (k7 : ¬ x.f0 = 7) (k8 : ¬ x.f0 = 8) (k5 : ¬ x.f0 = 5) (k6 : ¬ x.f0 = 6) : x.f0 = 4 := by
  unfold NodeP at h
  rw [if_neg (by omega), if_neg k3, if_neg k7] at h
  split at h
  · omega
  · cases h
theorem NodeP.size2 {x : FilterNodeT} (h : NodeP x) : x.f2.size ≤ 200 := by
  unfold NodeP at h
  repeat' split at h
  all_goals (try (cases h; done))
  all_goals (try (rw [h.2.1]; show 0 ≤ 200; omega))
  exact h.2.1.2.1
theorem esc_b (s : ByteArray) (h : s.size ≤ 200) : (tb (esc fSig s.data.toList)).size ≤ 800 := by
  rw [tb_size]
  have := esc_le s.data.toList
  have e : s.data.toList.length = s.size := by rw [Array.length_toList]; rfl
  omega
theorem esc_ne' (s : ByteArray) (h : 1 ≤ s.size) : esc fSig s.data.toList ≠ [] := esc_ne (fun e => by
  have e1 : s.data.toList.length = s.size := by rw [Array.length_toList]; rfl
  rw [e] at e1
  simp at e1
  omega)

theorem flat_snoc (f : FT → List UInt8) (ks : List FT) (k : Nat) (h : k < ks.length) : (ks.take (k + 1)).flatMap f = (ks.take k).flatMap f ++ f ks[k] := by
  rw [List.take_succ_eq_append_getElem h, List.flatMap_append]; simp
theorem flat_take (f : FT → List UInt8) (ks : List FT) (k : Nat) : ((ks.take k).flatMap f).length ≤ (ks.flatMap f).length := by
  conv => rhs; rw [← List.take_append_drop k ks, List.flatMap_append, List.length_append]
  omega
/-- What FilterText answers. -/
def FtIs (l : List FilterNodeT) (s : ByteArray) : Prop := (¬ GFilt l ∧ s = ⟨#[]⟩) ∨ (GFilt l ∧ ∃ t, growT 20 l = some (t, []) ∧ s = if 1000 < (tb (ftx 20 t)).size then ⟨#[]⟩ else tb (ftx 20 t))
theorem FtIs.uniq {l : List FilterNodeT} {s s' : ByteArray} (h : FtIs l s) (h' : FtIs l s') : s = s' := by
  rcases h with ⟨h1, rfl⟩ | ⟨h1, t, e, rfl⟩ <;> rcases h' with ⟨h2, rfl⟩ | ⟨h2, t', e', rfl⟩
  · rfl
  · exact absurd h2 h1
  · exact absurd h1 h2
  · rw [e] at e'; simp at e'; rw [e']
theorem ft_len {l : List FilterNodeT} {t : FT} (h : GFilt l) (h1 : takeT 20 l = some (t, [])) (h2 : Right t) : (ftx 20 t).length ≤ 100000 := by
  have a := ftx_le (fun s hs => Nat.le_trans (name_le hs) (by decide)) 20 t h2
  have b := takeT_n 20 l t [] h1
  have c := h.1
  simp only [List.length_nil] at b
  omega

set_option maxRecDepth 20000 in
set_option maxHeartbeats 2000000 in
theorem sText_step (r : Nat) (lo : Nat) (IH : ∀ (t : FT) (s : Value) (w : World), TrAt r w lo s t → Right t → (ftx r t).length ≤ 100000 → Calls Try.prog 11 #[agg8 t.n s] w fun e w' => e = .returned (.string (tb (ftx r t))) ∧ Below w.heap.size w w')
    (x : FilterNodeT) (ks : List FT) (s : Value) (w : World) (h : TrAt (r + 1) w lo s (.node x ks)) (hR : Right (.node x ks)) (hN : (ftx (r + 1) (.node x ks)).length ≤ 100000) :
    Calls Try.prog 11 #[agg8 x s] w fun e w' => e = .returned (.string (tb (ftx (r + 1) (.node x ks)))) ∧ Below w.heap.size w w' := by
  have HT := hide h
  obtain ⟨h3, h20, a, cap, rfl, -⟩ := h
  simp only [FT.n, FT.kids] at h3 h20 ⊢
  obtain ⟨hP, hRk⟩ := hR.out
  have ih := hide IH
  clear IH
  have HR := hide hRk
  have HN := hide hN
  have m1 := hide hP.name
  have m2 := hide hP.text
  have m4 := hide hP.four
  have m3 := esc_b x.f2 hP.size2
  have q := hide (fun w => escaped_any x.f2 (tb fSig) (Nat.le_trans hP.size2 (by decide)) (by decide) w)
  have ef : (tb fSig).data.toList = fSig := rfl
  rw [ef] at q
  have hne := hide (esc_ne' x.f2)
  obtain ⟨E, hE⟩ : ∃ E, esc fSig x.f2.data.toList = E := ⟨_, rfl⟩
  have hd : Hid (headB x = if x.f0 = 1 then [40, 38] else if x.f0 = 2 then [40, 124] else if x.f0 = 3 then [40, 33] else if x.f0 = 7 then [40] ++ x.f1.data.toList ++ [61, 42] else if x.f0 = 8 then [40] ++ x.f1.data.toList ++ [61, 126] ++ E else [40] ++ x.f1.data.toList ++ opB x.f0 ++ plainB E) := hide (by rw [← hE]; rfl)
  rw [hE] at q m3 hne
  have q' : Hid (∀ w, Calls Try.prog 18 #[.string x.f2, .string ⟨#[40, 41, 92]⟩] w fun e w' => e = .returned (.string (tb E)) ∧ Below w.heap.size w w') := hide (unhide q)
  obtain ⟨H, hH⟩ : ∃ H, headB x = H := ⟨_, rfl⟩
  rw [hH] at hd
  have HE : Hid (ftx (r + 1) (.node x ks) = H ++ ks.flatMap (ftx r) ++ [41]) := hide (by rw [← hH]; rfl)
  obtain ⟨W, hW⟩ : ∃ W, W = (w.alloc (.cells (row8 x (.slice a ks.length cap)) 35)).alloc (.cells (eRow x) 32) := ⟨_, rfl⟩
  have BW : Hid (Below w.heap.size w W) := hide (by rw [hW]; exact bAl (bAl (Below.refl _ _) _) _)
  have R1 : Hid (RowIs W w.heap.size (row8 x (.slice a ks.length cap)) 35) := hide (by rw [hW]; exact (RowIs.new w _ _).keep (bAl (Below.refl _ _) _))
  have R2 : Hid (RowIs W (w.heap.size + 1) (eRow x) 32) := hide (by rw [hW]; have := RowIs.new (w.alloc (.cells (row8 x (.slice a ks.length cap)) 35)) (eRow x) 32; simpa using this)
  have HX := hide h3
  clear hP hR hRk hN hE hH q ef h3
  obtain ⟨f0, f1, f2, f3⟩ := x
  simp only at m1 m2 m3 m4 q' hd HX hne
  go_enter Try.func11, Try.ntmps11
  go_upto_block 0 with fail
  rw [← hW]
  clear hW
  go_cut [4, 5, 6] from 13 (fun s s5 s6 wx => s = .string (tb H) ∧ Hid (Below W.heap.size W wx))
  case first =>
    have z1 := (unhide R2).lt
    have c0 := (unhide R2).at (o := 0) (v := .int .i64 f0) rfl
    have c1 := (unhide R2).at (o := 1) (v := .string f1) rfl
    have c2 := (unhide R2).at (o := 2) (v := .string f2) rfl
    clear R1 BW HT HN HR HE HX ih
    have hd' := unhide hd
    by_cases k1 : f0 = 1
    · subst k1
      rw [if_pos rfl] at hd'
      replace hd' := hide hd'
      clear m1 m2 hd c1 c2
      go_wp2_with fail
      go_meet
      case rel => exact ⟨congrArg Value.string (by rw [unhide hd']; rfl), hide (Below.refl _ _)⟩
    by_cases k2 : f0 = 2
    · subst k2
      rw [if_neg (by decide), if_pos rfl] at hd'
      replace hd' := hide hd'
      clear m1 m2 hd c1 c2
      go_wp2_with fail
      go_meet
      case rel => exact ⟨congrArg Value.string (by rw [unhide hd']; rfl), hide (Below.refl _ _)⟩
    by_cases k3 : f0 = 3
    · subst k3
      rw [if_neg (by decide), if_neg (by decide), if_pos rfl] at hd'
      replace hd' := hide hd'
      clear m1 m2 hd c1 c2
      go_wp2_with fail
      go_meet
      case rel => exact ⟨congrArg Value.string (by rw [unhide hd']; rfl), hide (Below.refl _ _)⟩
    have s1 := unhide m1 k1 k2 k3
    rw [if_neg k1, if_neg k2, if_neg k3] at hd'
    by_cases k7 : f0 = 7
    · subst k7
      rw [if_pos rfl] at hd'
      replace hd' := hide hd'
      clear m1 m2 hd c2
      go_wp2_with fail
      go_meet
      case rel => exact ⟨congrArg Value.string (by rw [unhide hd', ← tb_app, ← tb_app, tb_of, ByteArray.append_assoc]; rfl), hide (Below.refl _ _)⟩
    have s2 := unhide m2 k1 k2 k3 k7
    rw [if_neg k7] at hd'
    by_cases k8 : f0 = 8
    · subst k8
      rw [if_pos rfl] at hd'
      replace hd' := hide hd'
      clear m1 m2 hd
      have x1 := kept_cell z1 c1
      have x2 := kept_cell z1 c2
      clear c1 c2
      have s3 : (tb E).size ≤ 800 := m3
      obtain ⟨y0⟩ : Nonempty (Kept W) := ⟨⟨W, Below.refl _ _⟩⟩
      have inst : Nonempty (Kept W) := ⟨y0⟩
      go_wp2_with fail
      refine wp_region_kept (by kernel_rfl) (by kernel_rfl) ?_
      repeat (first
        | go_big_quiet_step ((go_at_call 18; exact kept_call (unhide q' _)))
        | quiet_step ((go_at_call 18; exact kept_call (unhide q' _))))
      refine wpQuiet_nil ?_
      rintro _ ⟨y, rfl⟩
      obtain ⟨w3, hb3⟩ := y
      go_wp2_with fail
      go_meet
      case rel => exact ⟨congrArg Value.string (by rw [unhide hd', ← tb_app, ← tb_app, ← tb_app, tb_of, ByteArray.append_assoc, ByteArray.append_assoc]; rfl), hide hb3⟩
    rw [if_neg k8] at hd'
    have HD := hide hd'
    have s3 : (tb E).size ≤ 800 := m3
    have HNE := hide (unhide hne s2.1)
    clear m1 m2 hd hd' hne m3
    go_wp2_with fail
    refine (unhide q' _).mono ?_
    rintro e w1 ⟨rfl, hb1⟩
    obtain ⟨c, E1, rfl⟩ : ∃ c E1, E = c :: E1 := by
      cases E with
      | nil => exact absurd rfl (unhide HNE)
      | cons c E1 => exact ⟨c, E1, rfl⟩
    have zE : 0 < (tb (c :: E1)).size := by rw [tb_size]; simp
    have g0 := tb_get0 c E1
    have B1 := hide hb1
    have d0 := cellB hb1 z1 c0
    have d1 := cellB hb1 z1 c1
    have key := hide (show ∀ (o p : List UInt8), opB f0 = o → plainB (c :: E1) = p → (⟨#[40]⟩ ++ (f1 ++ tb o ++ tb p) : ByteArray) = tb H from fun o p ho hp => by
      rw [unhide HD, ho, hp, ← tb_app, ← tb_app, ← tb_app, tb_of, ByteArray.append_assoc, ByteArray.append_assoc, ByteArray.append_assoc]; rfl)
    clear hb1 q' c0 c1 c2 HD HNE
    have fo : Hid (∀ p (P : ByteArray), plainB (c :: E1) = p → tb p = P → ∀ o (O : ByteArray), opB f0 = o → tb o = O → Value.string (⟨#[40]⟩ ++ (f1 ++ O ++ P)) = Value.string (tb H)) := hide (fun p P hp hP o O ho hO => by rw [← hP, ← hO]; exact congrArg Value.string (unhide key o p ho hp))
    have pc : Hid (plainB (c :: E1) = if c = 42 ∨ c = 126 then 92 :: c :: E1 else c :: E1) := hide plain_if
    clear key
    by_cases c42 : c = 42
    · subst c42
      have pl := unhide fo _ ((⟨#[92]⟩ : ByteArray) ++ tb (42 :: E1)) ((unhide pc).trans (if_pos (.inl rfl))) (show tb ([92] ++ 42 :: E1) = tb [92] ++ tb (42 :: E1) from (tb_app [92] (42 :: E1)).symm)
      replace pl := hide pl
      clear fo pc
      by_cases k5 : f0 = 5
      · subst k5
        replace pl := hide (unhide pl [62, 61] ⟨#[62, 61]⟩ rfl rfl)
        go_wp2_with fail
        go_meet
        case rel => exact ⟨unhide pl, B1⟩
      by_cases k6 : f0 = 6
      · subst k6
        replace pl := hide (unhide pl [60, 61] ⟨#[60, 61]⟩ rfl rfl)
        go_wp2_with fail
        go_meet
        case rel => exact ⟨unhide pl, B1⟩
      have k4 := unhide m4 k1 k2 k3 k7 k8 k5 k6
      clear m4
      subst k4
      replace pl := hide (unhide pl [61] ⟨#[61]⟩ rfl rfl)
      go_wp2_with fail
      go_meet
      case rel => exact ⟨unhide pl, B1⟩
    by_cases c126 : c = 126
    · subst c126
      have pl := unhide fo _ ((⟨#[92]⟩ : ByteArray) ++ tb (126 :: E1)) ((unhide pc).trans (if_pos (.inr rfl))) (show tb ([92] ++ 126 :: E1) = tb [92] ++ tb (126 :: E1) from (tb_app [92] (126 :: E1)).symm)
      replace pl := hide pl
      clear fo pc c42
      by_cases k5 : f0 = 5
      · subst k5
        replace pl := hide (unhide pl [62, 61] ⟨#[62, 61]⟩ rfl rfl)
        go_wp2_with fail
        go_meet
        case rel => exact ⟨unhide pl, B1⟩
      by_cases k6 : f0 = 6
      · subst k6
        replace pl := hide (unhide pl [60, 61] ⟨#[60, 61]⟩ rfl rfl)
        go_wp2_with fail
        go_meet
        case rel => exact ⟨unhide pl, B1⟩
      have k4 := unhide m4 k1 k2 k3 k7 k8 k5 k6
      clear m4
      subst k4
      replace pl := hide (unhide pl [61] ⟨#[61]⟩ rfl rfl)
      go_wp2_with fail
      go_meet
      case rel => exact ⟨unhide pl, B1⟩
    have pl := unhide fo _ (tb (c :: E1)) ((unhide pc).trans (if_neg (fun h => h.elim c42 c126))) rfl
    replace pl := hide pl
    have y1 : ¬ (c.toNat : Int) = 42 := fun h => c42 (UInt8.toNat_inj.1 (by have : (42 : UInt8).toNat = 42 := rfl; omega))
    have y2 : ¬ (c.toNat : Int) = 126 := fun h => c126 (UInt8.toNat_inj.1 (by have : (126 : UInt8).toNat = 126 := rfl; omega))
    clear fo pc c42 c126
    by_cases k5 : f0 = 5
    · subst k5
      replace pl := hide (unhide pl [62, 61] ⟨#[62, 61]⟩ rfl rfl)
      go_wp2_with fail
      · rename_i hh
        exact absurd hh (by rintro (h | h) <;> simp [y1, y2] at h)
      · go_meet
        case rel => exact ⟨unhide pl, B1⟩
    by_cases k6 : f0 = 6
    · subst k6
      replace pl := hide (unhide pl [60, 61] ⟨#[60, 61]⟩ rfl rfl)
      go_wp2_with fail
      · rename_i hh
        exact absurd hh (by rintro (h | h) <;> simp [y1, y2] at h)
      · go_meet
        case rel => exact ⟨unhide pl, B1⟩
    have k4 := unhide m4 k1 k2 k3 k7 k8 k5 k6
    clear m4
    subst k4
    replace pl := hide (unhide pl [61] ⟨#[61]⟩ rfl rfl)
    go_wp2_with fail
    · rename_i hh
      exact absurd hh (by rintro (h | h) <;> simp [y1, y2] at h)
    · go_meet
      case rel => exact ⟨unhide pl, B1⟩
  obtain ⟨rfl, hb0⟩ := hcut
  have B0 := hide (bTr (unhide BW) (unhide hb0))
  have R0 := (unhide R1).keep (unhide hb0)
  have c4 := R0.at (o := 4) (v := .slice a ks.length cap) rfl
  have TT := hide ((unhide HT).keptY ((KeptY.refl lo w).below (unhide B0) (Nat.le_refl _)))
  clear hb0 R1 R2 BW HT R0 m1 m2 m3 m4 q' hd HX hne
  go_wp2_with fail
  clear c4
  go_loopw [4, 73] (fun o i w' => ∃ (k : Nat), k ≤ ks.length ∧ i = .int .i64 k ∧ o = .string (tb (H ++ (ks.take k).flatMap (ftx r))) ∧ Hid (Below w.heap.size w w') ∧ Hid (TrAt (r + 1) w' lo (.slice a ks.length cap) (.node ⟨f0, f1, f2, f3⟩ ks))) (fun _ i _ => ks.length - (Go.RowKit.intOf i).toNat)
  case atStart => exact ⟨0, Nat.zero_le _, rfl, by simp, B0, TT⟩
  case round =>
    obtain ⟨k, hk, rfl, rfl, hb, ht⟩ := hrel
    by_cases hlt : k < ks.length
    · obtain ⟨b, ea, s', h8, htr⟩ : ∃ b, a = some ⟨b, 0, none⟩ ∧ ∃ s', At8 wr b (k * 5) ks[k].n s' ∧ TrAt r wr lo s' ks[k] := by
        obtain ⟨_, _, a', cap', e, h4⟩ := unhide ht
        simp only [FT.kids] at e h4
        injection e with e1
        rcases h4 with h4 | ⟨b, e2, _, _, h5⟩
        · rw [h4] at hlt; simp at hlt
        · obtain ⟨s', g1, g2⟩ := h5 k hlt
          exact ⟨b, e1.trans e2, s', g1, g2⟩
      subst ea
      obtain ⟨t, ht'⟩ : ∃ t, ks[k] = t := ⟨_, rfl⟩
      rw [ht'] at h8 htr
      have fl : Hid ((ks.take (k + 1)).flatMap (ftx r) = (ks.take k).flatMap (ftx r) ++ ftx r t) := hide (by rw [← ht']; exact flat_snoc _ _ _ hlt)
      have lnA : (tb (H ++ (ks.take k).flatMap (ftx r))).size ≤ 100000 := by
        rw [tb_size]
        have := unhide HN
        rw [unhide HE] at this
        have := flat_take (ftx r) ks k
        simp only [List.length_append, List.length_cons, List.length_nil] at *
        omega
      have lt' : (ftx r t).length ≤ 100000 := by
        have := unhide HN
        rw [unhide HE] at this
        have := flat_mem (g := ftx r) (k := t) (ks := ks) (by rw [← ht']; exact List.getElem_mem _)
        simp only [List.length_append, List.length_cons, List.length_nil] at *
        omega
      have lnB : (tb (ftx r t)).size ≤ 100000 := by rw [tb_size]; exact lt'
      have rt := unhide HR t (by rw [← ht']; exact List.getElem_mem _)
      obtain ⟨sa, sn, sc, rfl⟩ : ∃ sa sn sc, s' = .slice sa sn sc := by
        cases r with
        | zero => exact htr.elim
        | succ r => obtain ⟨_, _, a, cap, e, _⟩ := htr; exact ⟨_, _, _, e⟩
      have q := hide (unhide ih t (.slice sa sn sc) (wr.alloc (.cells (row8 t.n (.slice sa sn sc)) 35)) (htr.keptY ((KeptY.refl lo wr).alloc _)) rt lt')
      obtain ⟨Y, hY⟩ : ∃ Y, t.n = Y := ⟨_, rfl⟩
      rw [hY] at h8 q
      have z5 := h8.c0
      have z6 := h8.c1
      have z7 := h8.c2
      have z8 := h8.c3
      have z9 := h8.c4
      have i0 : (0 : Int) ≤ (k : Int) := by omega
      have i1 : (k : Int) < (ks.length : Int) := by omega
      have HB := hb
      have HTT := ht
      generalize (ks.take k).flatMap (ftx r) = FK at *
      generalize ftx r t = FT' at *
      clear ht' htr h8 rt lt' hY hb ht ih
      go_wp2_with fail
      refine (unhide q).mono ?_
      rintro e w3 ⟨rfl, hb3⟩
      have hb4 := hide (bTr (bAl (Below.refl wr.heap.size wr) _) hb3)
      obtain ⟨TA, hTA⟩ : ∃ TA, tb (H ++ FK) = TA := ⟨_, rfl⟩
      obtain ⟨TB, hTB⟩ : ∃ TB, tb FT' = TB := ⟨_, rfl⟩
      have fin : Hid (TA ++ TB = tb (H ++ (ks.take (k + 1)).flatMap (ftx r))) := hide (by rw [unhide fl, ← hTA, ← hTB, tb_app, List.append_assoc])
      rw [hTA] at lnA ⊢
      rw [hTB] at lnB ⊢
      clear q z5 z6 z7 z8 z9 hb3 hTA hTB fl TT B0
      go_wp2_with fail
      exact ⟨⟨k + 1, by omega, by go_num, congrArg Value.string (unhide fin), hide (bTr (unhide HB) (unhide hb4)), hide ((unhide HTT).keptY ((KeptY.refl lo _).below (unhide hb4) (Nat.le_refl _)))⟩, by simp [Go.RowKit.intOf]; omega⟩
    · obtain rfl : k = ks.length := by omega
      have lnA : (tb (H ++ (ks.take ks.length).flatMap (ftx r))).size ≤ 100000 := by
        rw [tb_size, List.take_length]
        have := unhide HN
        rw [unhide HE] at this
        simp only [List.length_append, List.length_cons, List.length_nil] at *
        omega
      have fin : Hid (tb (H ++ (ks.take ks.length).flatMap (ftx r)) ++ ⟨#[41]⟩ = tb (ftx (r + 1) (.node ⟨f0, f1, f2, f3⟩ ks))) := hide (by rw [unhide HE, List.take_length, ← tb_app _ [41]]; rfl)
      generalize tb (H ++ (ks.take ks.length).flatMap (ftx r)) = TA at *
      clear ih ht
      go_wp2_with fail
      go_ret
      exact ⟨congrArg (fun x => Ending.returned (Value.string x)) (unhide fin), unhide hb⟩

theorem sText_any : ∀ (r : Nat) (t : FT) (s : Value) (lo : Nat) (w : World), TrAt r w lo s t → Right t → (ftx r t).length ≤ 100000 →
    Calls Try.prog 11 #[agg8 t.n s] w fun e w' => e = .returned (.string (tb (ftx r t))) ∧ Below w.heap.size w w'
  | 0, _, _, _, _, h, _, _ => h.elim
  | r + 1, .node x ks, s, lo, w, h, hR, hN => sText_step r lo (fun t s w h1 h2 h3 => sText_any r t s lo w h1 h2 h3) x ks s w h hR hN
end Go.Proofs.Ytlkpeolecfemnaa.V
