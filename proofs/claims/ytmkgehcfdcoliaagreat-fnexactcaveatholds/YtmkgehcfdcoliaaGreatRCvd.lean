/- impl.caveatCondition's closure. -/
import Derived.Test.YtmkgehcfdcoliaaGreatRCvc
namespace Go.Proofs.YtmkgehcfdcoliaaGreat.V
open Go.RowKit Go.Maps

/-- The cells of a row that is owned. -/
theorem ownCell {w : World} {base n e : Nat} {v : Value} {xs : List Value} (h : w.ownsRow base e 1 v n xs) (hn : 0 < n) : ∃ g cap, v = .slice (some ⟨g, 0, none⟩) n cap ∧ g < w.heap.size ∧ base ≤ g ∧ ∀ i (hi : i < xs.length), w.cell? ⟨g, i, none⟩ = some xs[i] := by
  rcases h.2 with ⟨rfl, rfl⟩ | ⟨g, cap, cur, rfl, hb, hh, _, _, hsz, htk⟩
  · omega
  · have hr : RowIs w g cur e := hh
    refine ⟨g, cap, rfl, hr.lt, hb, fun i hi => ?_⟩
    rw [hr.cell, ← Array.getElem?_toList]
    have : (cur.toList.take (n * 1))[i]? = some xs[i] := by rw [htk]; simp [hi]
    rw [List.getElem?_take] at this
    split at this
    · exact this
    · cases this

theorem resF_zero {F : CavTermT → Int} {ts : List CavTermT} {k : Nat} (hk : k < ts.length) (h : F ts[k] = 0) : resF F ts = 0 := by
  unfold resF
  rw [if_pos]
  rw [List.any_eq_true]
  exact ⟨ts[k], List.getElem_mem hk, by simp [h]⟩

set_option maxRecDepth 20000 in
set_option maxHeartbeats 1000000 in
theorem caveatCond1_any (bs b n base : Nat) (u : Value) (fv : List Value) (l : List ParamT) (ts : List CavTermT) (g : ByteArray → Option AtomT) (w : World) (h6 : ts.length ≤ 1000) (hm : KMs w b n (gM g)) (hg : ∀ s, ((g s).getD zA).Ok) (hb : RowIs w bs #[u] 91) (ho : w.ownsRow base 61 1 u ts.length fv)
    (hc : ∀ i (h : i < fv.length) (h' : i < ts.length), ∃ (wi : World) (lo : Nat), CondV lo wi fv[i] (fun g => termR l g ts[i]) ∧ KeptR lo wi.heap.size wi w) :
    Calls Tryz.prog 50 #[.map (some b), .pointer (some ⟨bs, 0, none⟩)] w fun e w' => e = .returned (.int .i64 (resF (termR l g) ts)) ∧ Below w.heap.size w w' := by
  have fl : fv.length = ts.length := by have := ho.1; simpa using this
  obtain ⟨a, cap, rfl, hcell⟩ : ∃ a cap, u = .slice a ts.length cap ∧ ∀ i (hi : i < fv.length), ∃ gg, a = some ⟨gg, 0, none⟩ ∧ gg < w.heap.size ∧ w.cell? ⟨gg, i, none⟩ = some fv[i] := by
    rcases Nat.eq_zero_or_pos ts.length with e | e
    · rcases ho.2 with ⟨rfl, _⟩ | ⟨g', cap, cur, rfl, _⟩
      · exact ⟨none, 0, by rw [e], fun i hi => by omega⟩
      · exact ⟨_, cap, rfl, fun i hi => by omega⟩
    · obtain ⟨gg, cap, rfl, h1, _, h2⟩ := ownCell ho e
      exact ⟨_, cap, rfl, fun i hi => ⟨gg, rfl, h1, h2 i hi⟩⟩
  have HCL := hide hcell
  have x0 := hb.at (o := 0) (v := .slice a ts.length cap) rfl
  have zb := hb.lt
  have HQ := hide (fun i (h : i < fv.length) (h' : i < ts.length) (w' : World) (hk : Below w.heap.size w w') => show ∃ N caps, fv[i] = .func (.func N) #[] caps ∧ Ent N ∧ Calls Tryz.prog N (#[.map (some b)] ++ caps) w' (fun e w'' => e = .returned (.int .i64 (termR l g ts[i])) ∧ Below w'.heap.size w' w'') by
    obtain ⟨wi, lo, ⟨N, caps, e, en, q⟩, kp⟩ := hc i h h'
    exact ⟨N, caps, e, en, q w' b n g (kp.call hk) (hm.keepB hk hm.lt) hg⟩)
  have FL := hide fl
  clear hm hg hb ho hc hcell fl
  generalize hF : termR l g = F at *
  have F3 : Hid (∀ t, F t = 0 ∨ F t = 1 ∨ F t = 2) := hide (fun t => by rw [← hF]; exact termR_cases l g t)
  clear hF
  go_enter Tryz.func50, Tryz.ntmps50
  go_wp2_with fail
  go_loopw [4, 9] (fun o i w' => ∃ k : Nat, k ≤ ts.length ∧ i = .int .i64 k ∧ o = .int .i64 (resF F (ts.take k)) ∧ Hid (resF F (ts.take k) = 1 ∨ resF F (ts.take k) = 2) ∧ Hid (Below w.heap.size w w')) (fun _ i _ => ts.length - (Go.RowKit.intOf i).toNat)
  case atStart => exact ⟨0, Nat.zero_le _, rfl, rfl, hide (.inl rfl), hide (Below.refl _ _)⟩
  case round =>
    obtain ⟨k, hk, rfl, rfl, hr, hb⟩ := hrel
    by_cases hlt : k < ts.length
    · have hkf : k < fv.length := by rw [unhide FL]; exact hlt
      obtain ⟨gg, rfl, hgg, hcell⟩ := unhide HCL k hkf
      obtain ⟨N, caps, e, en, q⟩ := unhide HQ k hkf hlt wr (unhide hb)
      rw [e] at hcell
      have c0 := cellB (unhide hb) hgg hcell
      have EN := hide en
      have Q := hide q
      have hst := resF_step F hlt
      have hx := unhide F3 ts[k]
      have h0 := hide (fun h : F ts[k] = 0 => resF_zero hlt h)
      clear hcell en q e
      generalize F ts[k] = x at *
      replace hr := unhide hr
      generalize resF F (ts.take k) = r at *
      generalize hN : resF F (ts.take (k + 1)) = M at *
      have HN := hide hN
      clear hN
      have i0 : (0 : Int) ≤ (k : Int) := by omega
      have i1 : (k : Int) < (ts.length : Int) := by omega
      go_wp2_with fail
      rw [unhide EN, Oper.upon_enter]
      refine (unhide Q).mono ?_
      rintro e w3 ⟨rfl, hb3⟩
      have B3 := hide (bTr (unhide hb) hb3)
      clear hb3 Q c0
      rcases hx with rfl | rfl | rfl
      · have E := hide (unhide h0 rfl)
        clear hst h0 hr
        go_wp2_with fail
        go_ret
        exact ⟨ret_int (unhide E).symm, unhide B3⟩
      all_goals
        clear h0
        rcases hr with rfl | rfl
        all_goals
          simp at hst
          subst hst
          go_wp2_with fail
          exact ⟨⟨k + 1, by omega, by go_num, by rw [unhide HN], hide (by rw [unhide HN]; simp), B3⟩, by simp [Go.RowKit.intOf]; omega⟩
    · have ek : k = ts.length := by omega
      subst ek
      rw [List.take_length]
      go_wp2_with fail
      go_ret
      exact ⟨rfl, unhide hb⟩

theorem KeptR.via {lo lo' hi : Nat} {w X Y : World} (h : KeptR lo hi w X) (k : KeptR lo' X.heap.size X Y) (hl : lo' ≤ lo) : KeptR lo hi w Y :=
  ⟨Nat.le_trans h.size k.size, fun c h1 h2 => (k.block c (Nat.le_trans hl h1) (Nat.lt_of_lt_of_le h2 h.size)).trans (h.block c h1 h2)⟩
theorem ownKeptR {lo : Nat} {w w' : World} {base n e size : Nat} {v : Value} {xs : List Value} (h : w.ownsRow base e size v n xs) (hk : KeptR lo w.heap.size w w') (hb : lo ≤ base) : w'.ownsRow base e size v n xs := by
  refine ⟨h.1, h.2.imp_right ?_⟩
  rintro ⟨g, cap, cur, e', h1, hh, r⟩
  have ho : v.ownBlock = some g := by rw [e']; rfl
  refine ⟨g, cap, cur, e', h1, ?_, r⟩
  rw [hk.block g (by omega) (h.lt g ho).2]; exact hh

/-- The whole caveat, as a condition. -/
theorem caveatCondV {w W : World} {u : Value} {fv : List Value} {l : List ParamT} {ts : List CavTermT} (h6 : ts.length ≤ 1000) (ho : W.ownsRow (w.heap.size + 1 + 1) 61 1 u ts.length fv) (hr : RowIs W (w.heap.size + 1) #[u] 91) (hc : CIs (w.heap.size + 1 + 1) W u l ts fv) :
    CondV w.heap.size W (.func (.func 50) #[] #[.pointer (some ⟨w.heap.size + 1, 0, none⟩)]) (fun g => resF (termR l g) ts) := by
  refine ⟨_, _, rfl, ent_of Tryz.func50 (by kernel_rfl) (by kernel_rfl), fun w' b n g hk hm hg => ?_⟩
  exact caveatCond1_any (w.heap.size + 1) b n (w.heap.size + 1 + 1) u fv l ts g w' h6 hm hg (hr.keptR hk (by omega)) (ownKeptR ho hk (by omega)) (fun i h h' => by
    obtain ⟨wi, lo, c, kp, _, hb⟩ := hc i h h'
    exact ⟨wi, lo, c, kp.via hk (by omega)⟩)
end Go.Proofs.YtmkgehcfdcoliaaGreat.V
