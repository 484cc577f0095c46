/- impl.Ancestors. -/
import Derived.Test.YtpfekkhnjaopdaaGreatNSf
import Derived.Test.YtpfekkhnjaopdaaGreatNHg
import Derived.Test.YtpfekkhnjaopdaaGreatNUp
namespace Go.Proofs.YtpfekkhnjaopdaaGreat.V
set_option linter.unusedSimpArgs false
set_option linter.unusedVariables false
open Go.RowKit Go.Maps Go.Sort Go.Shelf

/-- What Ancestors answers. -/
def AncIs (lt : List ThingT) (a : AtomT) (rr : List AtomT) : Prop := (GThs lt ∧ refA a = true ∧ (∀ x, x ∈ rr ↔ Up (parL lt) a x) ∧ rr.Pairwise (fun a b => a.cmp b < 0)) ∨ (¬ (GThs lt ∧ refA a = true) ∧ rr = [])
theorem AncIs.uniq {lt : List ThingT} {a : AtomT} {r r' : List AtomT} (h : AncIs lt a r) (k : AncIs lt a r') : r = r' := by
  rcases h with ⟨h1, h2, h3, h4⟩ | ⟨h1, h2⟩
  · rcases k with ⟨_, _, k3, k4⟩ | ⟨k1, _⟩
    · exact ris_ext (fun a => ord_A.irr a) (fun a b c => ord_A.tr a b c) h4 k4 (fun x => by rw [h3, k3])
    · exact absurd ⟨h1, h2⟩ k1
  · rcases k with ⟨k1, k2, _⟩ | ⟨_, k2⟩
    · exact absurd ⟨k1, k2⟩ h1
    · rw [h2, k2]
theorem srt_pw {ss : List AtomT} (hn : ss.Nodup) (hs : Srt ss) : ss.Pairwise (fun a b => a.cmp b < 0) := by
  rw [List.pairwise_iff_getElem]
  intro i j hi hj hij
  have h1 := hs i j hij hj
  rcases ord_A.tri ss[i] ss[j] with h | h | h
  · exact h
  · exact absurd ((List.getElem_inj hn).1 h) (by omega)
  · exact absurd h h1
theorem up_ref {lt : List ThingE} {M : AtomT → Option Value} {C : AtomT → Option ThingE} (hC : KCA lt M C) (hg : GThs (lt.map (·.t))) (hn : ∀ e ∈ lt, ThingN e.t) {a : AtomT} (ha : a.Ok) (hr : refA a = true) {x : AtomT} (h : Up (parC C) a x) : refA x = true ∧ x.Ok ∧ x ∈ unU lt a := by
  induction h with
  | same => exact ⟨hr, ha, List.mem_cons_self ..⟩
  | next _ hb ih =>
    rename_i c b _
    have hU := unU_par hC _ ih.2.2 _ hb
    unfold parC at hb
    split at hb
    · rename_i e he
      obtain ⟨hm, _⟩ := (hC c).2.2 e he
      exact ⟨(hg.1.2 _ (List.mem_map_of_mem hm)).2.1.2 _ hb, (hn e hm).o1 _ hb, hU⟩
    · cases hb
set_option maxRecDepth 40000 in
set_option maxHeartbeats 4000000 in
theorem iAncestors_n (hd : Hd) (lt : List ThingE) (a : AtomT) (w : World) (hn : ∀ e ∈ lt, ThingN e.t) (hl : lt.length ≤ maxLen) (hs : SqThingE w 0 hd lt) (hao : a.Ok) :
    Calls Tryz.prog 10 #[.slice hd.a hd.len hd.cap, encA a] w fun r w' => (∃ v rr, r = .returned v ∧ AncIs (lt.map (·.t)) a rr ∧ w'.ownsRow w.heap.size 31 4 v rr.length (atomsV rr)) ∧ Below w.heap.size w w' := by
  obtain ⟨W, hW⟩ : ∃ W, W = w.alloc (.cells #[.int .i64 a.x, .int .i64 a.n, .string a.t, .string a.y] 31) := ⟨_, rfl⟩
  have bW : Below w.heap.size w W := by rw [hW]; exact bAl (Below.refl _ _) _
  have HR : Hid (RowIs W w.heap.size #[.int .i64 a.x, .int .i64 a.n, .string a.t, .string a.y] 31) := hide (by rw [hW]; exact RowIs.new _ _ _)
  have q1 := hide (thingIndexOf_n hd lt W hn hl (hs.keep bW))
  have BW := hide bW
  have HW := hide hW.symm
  have HN := hide hn
  have HS := hide hs
  have HA := hide hao
  clear hn hl hs hao hW bW
  unfold encA
  go_enter Tryz.func10, Tryz.ntmps10
  go_wp2_with fail
  rw [unhide HW]
  refine (unhide q1).mono ?_
  rintro r w1 ⟨⟨b1, b2, ok, rfl, hok, h12, hz1, hkg, hk2⟩, hb⟩
  replace HR := hide ((unhide HR).keep hb)
  have B1 := hide (bTr (unhide BW) hb)
  have HOK := hide hok
  have HKG := hide hkg
  have HK2 := hide hk2
  have hzW : w.heap.size < W.heap.size := by rw [← unhide HW]; simp
  obtain ⟨WI, hWI⟩ : ∃ X, X = w1.alloc (.cells #[.map (some b1), .map (some b2)] 61) := ⟨_, rfl⟩
  have bI : Below w1.heap.size w1 WI := by rw [hWI]; exact bAl (Below.refl _ _) _
  obtain ⟨bi, hbi⟩ : ∃ b, b = w1.heap.size := ⟨_, rfl⟩
  have HI : Hid (RowIs WI bi #[.map (some b1), .map (some b2)] 61) := hide (by rw [hWI, hbi]; exact RowIs.new _ _ _)
  replace HR := hide ((unhide HR).keep bI)
  have BI := hide (bTr (unhide B1) bI)
  have HBI := hide bI
  have HWI := hide hWI.symm
  have HBB := hide hbi
  clear q1 hb hok hkg hk2 hWI bI HW BW hbi B1
  have qr0 := hide (fun w' => isRef_any a w' (unhide HA))
  cases ok
  case false =>
    have no : Hid (¬ (GThs (lt.map (·.t)) ∧ refA a = true)) := hide (fun g => by have := (unhide HOK).2 g.1; cases this)
    clear HKG HOK qr0
    go_wp2_with fail
    rw [unhide HWI]
    go_ret
    exact ⟨⟨.slice none 0 0, [], rfl, .inr ⟨unhide no, rfl⟩, ⟨rfl, .inl ⟨rfl, rfl⟩⟩⟩, unhide BI⟩
  have GG := hide ((unhide HOK).1 rfl)
  have KG1 := hide (unhide HKG rfl)
  clear HOK HKG
  have c0 := (unhide HR).at (o := 0) (v := .int .i64 a.x) rfl
  have c1 := (unhide HR).at (o := 1) (v := .int .i64 a.n) rfl
  have c2 := (unhide HR).at (o := 2) (v := .string a.t) rfl
  have c3 := (unhide HR).at (o := 3) (v := .string a.y) rfl
  rw [← unhide HWI] at c0 c1 c2 c3
  by_cases hr : refA a = true
  case neg =>
    have no : Hid (¬ (GThs (lt.map (·.t)) ∧ refA a = true)) := hide (fun g => hr g.2)
    have qr := hide (fun w' => callsF (unhide qr0 w') hr)
    clear hr qr0 KG1
    go_wp2_with fail
    rw [unhide HWI]
    refine (unhide qr _).mono ?_
    rintro e w2 ⟨rfl, h2⟩
    have B2 := hide (bTr (unhide BI) h2)
    clear qr h2 c0 c1 c2 c3
    go_wp2_with fail
    go_ret
    exact ⟨⟨.slice none 0 0, [], rfl, .inr ⟨unhide no, rfl⟩, ⟨rfl, .inl ⟨rfl, rfl⟩⟩⟩, unhide B2⟩
  have qr := hide (fun w' => callsT (unhide qr0 w') hr)
  obtain ⟨M, C, hM, hC⟩ := (unhide KG1).told
  have HRA := hide hr
  have UR := hide (fun x hx => up_ref (x := x) hC (unhide GG) (unhide HN) (unhide HA) hr hx)
  have ULN : Hid ((unU lt a).length ≤ 1000000) := hide (by
    have h1 := flat_le (lt := lt) (fun e he => ((unhide GG).1.2 _ (List.mem_map_of_mem he)).2.1.1)
    have h2 := (unhide GG).1.1
    simp at h2
    unfold unU
    rw [List.length_cons]
    omega)
  have PE : Hid (parC C = parL (lt.map (·.t))) := hide (told_find hC (unhide GG))
  have qa : Hid (∀ (w' : World), Below WI.heap.size WI w' → Calls Tryz.prog 29 #[.agg #[.map (some b1), .map (some b2)], .agg #[.int .i64 a.x, .int .i64 a.n, .string a.t, .string a.y]] w' fun r w'' => ∃ bf n, r = .returned (.map (some bf)) ∧ KAt w'' bf n (seA (Up (parC C) a)) ∧ w'.grownBy w'' (some b2)) := hide (fun w' hb =>
    ancestors_n w lt M C b1 b2 lt.length a w' (unhide HS).2.2 hC (unhide GG) (unhide HN) (refA.ok hr (unhide HA)) (by omega) (bTr (unhide BI) hb) (by omega) ((hM.keepB (unhide HBI) hM.lt).keepB hb (hM.keepB (unhide HBI) hM.lt).lt) (((unhide HK2).keepB (unhide HBI) (unhide HK2).lt).keepB hb ((unhide HK2).keepB (unhide HBI) (unhide HK2).lt).lt))
  have ZB : Hid (w.heap.size ≤ b2) := hide (by omega)
  clear hr qr0 KG1 hM hC h12 hz1 hzW HK2 HBI HS HN
  go_wp2_with fail
  rw [unhide HWI]
  refine (unhide qr _).mono ?_
  rintro e w2 ⟨rfl, h2⟩
  have B2 := hide (bTr (unhide BI) h2)
  have H2 := hide h2
  clear qr c0 c1 c2 c3
  have c0 := ((unhide HR).keep h2).at (o := 0) (v := .int .i64 a.x) rfl
  have c1 := ((unhide HR).keep h2).at (o := 1) (v := .int .i64 a.n) rfl
  have c2 := ((unhide HR).keep h2).at (o := 2) (v := .string a.t) rfl
  have c3 := ((unhide HR).keep h2).at (o := 3) (v := .string a.y) rfl
  have d0 := ((unhide HI).keep h2).at (o := 0) (v := .map (some b1)) rfl
  have d1 := ((unhide HI).keep h2).at (o := 1) (v := .map (some b2)) rfl
  rw [unhide HBB] at d0 d1
  clear h2 BI
  go_wp2_with fail
  refine (unhide qa _ (unhide H2)).mono ?_
  rintro e w3 ⟨bf, n, rfl, hk, hg⟩
  have B3 := hide ((unhide B2).grown hg (unhide B2).size (fun k e => by cases e; exact unhide ZB))
  have qk := hide (keysOfN (some bf) w3)
  have qs := hide (sortedFuncA bf n _ (unU lt a) w3 hk (fun x hx => by obtain ⟨u1, u2, _⟩ := unhide UR x hx; exact ⟨⟨refA.good u1, u2⟩, refA.ok u1 u2⟩) (fun x hx => (unhide UR x hx).2.2) (unhide ULN))
  clear hk hg qa H2 c0 c1 c2 c3 d0 d1
  go_wp2_with fail
  refine (unhide qk).mono ?_
  rintro e w4 ⟨rfl, rfl⟩
  clear qk
  go_wp2_with fail
  refine (unhide qs).mono ?_
  rintro e w5 ⟨v, ss, rfl, hss, hown, hb5⟩
  have SS := hide hss
  have OW := hide hown
  have z3 := (unhide B3).size
  have B4 := hide (bTr (unhide B3) (bAl (Below.refl _ _) (.cells #[.map (some bf)] 69)))
  have B5 := hide (bTr (unhide B4) hb5)
  clear hss hown hb5 qs
  go_wp2_with fail
  go_ret
  refine ⟨⟨v, ss, rfl, .inl ⟨unhide GG, unhide HRA, ?_, srt_pw (unhide SS).1 (unhide SS).2.2⟩, own_base (unhide OW) (unhide B4).size⟩, unhide B5⟩
  rw [← unhide PE]
  exact (unhide SS).2.1
end Go.Proofs.YtpfekkhnjaopdaaGreat.V
